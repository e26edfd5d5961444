import PyProof.Rows.All
import Wide.All
import OpenK.AllK
import Wide.FinOn
import PyProof.EqAt
import PyProof.EqKinds
import PyProof.TupleCall
import Open.SpecLaws
import KE.OsHead
import KE.OsGo
import KE.BitLaws
import KE.KMinKey
import PySem.Challenge.RW_levelloads_s01_answers
section
set_option Elab.async false
set_option linter.all false
set_option maxRecDepth 100000
namespace L2
open PySem PySem.Spec PyProof.Rows
abbrev Key := Sum Int Str
def keyIs : Key → Value → Bool
  | .inl k, v => Value.isInt k v
  | .inr x, v => Value.isStrOf x v
def keyH (w : World) : Key → Int
  | .inl k => hashInt k
  | .inr x => hashStr w x
theorem keyIs_shape : ∀ {k : Key} {v : Value}, keyIs k v = true → (∃ i t, k = Sum.inl i ∧ v = Value.int i t) ∨ (∃ x t, k = Sum.inr x ∧ v = Value.str x t)
  | .inl i, v, h => by
    obtain ⟨t, e⟩ := Value.isInt_shape (k := i) (v := v) h
    exact .inl ⟨i, t, rfl, e⟩
  | .inr x, v, h => by
    obtain ⟨t, e⟩ := Value.isStrOf_shape (x := x) (v := v) h
    exact .inr ⟨x, t, rfl, e⟩
theorem key_ll (a b : Int) : decide ((Sum.inl a : Key) = Sum.inl b) = (a == b) := by
  by_cases e : a = b
  · subst e; simp
  · have h : ¬ (Sum.inl a : Key) = Sum.inl b := fun q => e (Sum.inl.inj q)
    rw [decide_eq_false h]
    exact (beq_eq_false_iff_ne.mpr e).symm
theorem key_rr (a b : Str) : decide ((Sum.inr a : Key) = Sum.inr b) = decide (a = b) := by
  by_cases e : a = b
  · subst e; simp
  · have h : ¬ (Sum.inr a : Key) = Sum.inr b := fun q => e (Sum.inr.inj q)
    rw [decide_eq_false h, decide_eq_false e]
theorem key_lr (a : Int) (b : Str) : decide ((Sum.inl a : Key) = Sum.inr b) = false := decide_eq_false (fun q => nomatch q)
theorem key_rl (a : Str) (b : Int) : decide ((Sum.inr a : Key) = Sum.inl b) = false := decide_eq_false (fun q => nomatch q)
def mixKind (prog : Program) (w : World) : PySem.KeyKind prog w Key where
  is := keyIs
  hash := keyH w
  inj := fun v a b ha hb => by
    rcases keyIs_shape ha with ⟨i, t, rfl, rfl⟩ | ⟨x, t, rfl, rfl⟩
    · rcases keyIs_shape hb with ⟨j, u, rfl, e⟩ | ⟨y, u, rfl, e⟩
      · injection e with e1 _; rw [e1]
      · exact nomatch e
    · rcases keyIs_shape hb with ⟨j, u, rfl, e⟩ | ⟨y, u, rfl, e⟩
      · exact nomatch e
      · injection e with e1 _; rw [e1]
  byValue := fun k v h => by
    rcases keyIs_shape h with ⟨i, t, rfl, rfl⟩ | ⟨x, t, rfl, rfl⟩ <;> rfl
  pyHash := fun hv h => by
    rcases keyIs_shape hv with ⟨i, t, rfl, rfl⟩ | ⟨x, t, rfl, rfl⟩
    · exact wpAny_pyHash_int h
    · exact wpAny_pyHash_str h
  eqBool := fun hu hv h => by
    rcases keyIs_shape hu with ⟨i, t, rfl, rfl⟩ | ⟨x, t, rfl, rfl⟩
    · rcases keyIs_shape hv with ⟨j, u, rfl, rfl⟩ | ⟨y, u, rfl, rfl⟩
      · rw [key_ll] at h; exact wpAny_eqBool_int h
      · rw [key_lr] at h; exact SeqAt.EqAt.int_str i t y u _ _ _ _ h
    · rcases keyIs_shape hv with ⟨j, u, rfl, rfl⟩ | ⟨y, u, rfl, rfl⟩
      · rw [key_rl] at h; exact SeqAt.EqAt.str_int x t j u _ _ _ _ h
      · rw [key_rr] at h; exact wpAny_eqBool_str h
  «strs» := fun k x t v h => by
    rcases keyIs_shape h with ⟨i, u, rfl, e⟩ | ⟨y, u, rfl, e⟩
    · exact nomatch e
    · injection e with e1 _
      subst e1
      cases v <;> rfl
end L2
namespace L2
open PySem PySem.Spec PyProof.Rows
inductive V where
  | non | bl (b : Bool) | int (i : Int) | str (x : Str) | byt (b : Array UInt8) | flt (b : UInt64) | ref (a : Addr) | ty (n : String)
  deriving DecidableEq
def RelV : V → Value → Prop
  | .non, u => u = Value.none
  | .bl b, u => u = Value.bool b
  | .int i, u => ∃ t, u = Value.int i t
  | .str x, u => ∃ t, u = Value.str x t
  | .byt b, u => ∃ t, u = Value.bytes b t
  | .flt b, u => ∃ t, u = Value.float b t
  | .ref a, u => u = Value.ref a
  | .ty n, u => u = Value.type n
abbrev Vals : List V → List Value → Prop := Paired RelV
theorem Vals.length {xs : List V} {us : List Value} (r : Vals xs us) : xs.length = us.length := Paired.length r
theorem Vals.get : ∀ {xs : List V} {us : List Value} {i : Nat} {x : V}, Vals xs us → xs[i]? = some x → ∃ u, us[i]? = some u ∧ RelV x u
  | _, _, _, _, .nil, e => by simp at e
  | _, _, 0, _, .cons r _, e => by simp at e; subst e; exact ⟨_, rfl, r⟩
  | _, _, i + 1, x, .cons _ t, e => by
    obtain ⟨u, h1, h2⟩ := Vals.get (i := i) (x := x) t (by simpa using e)
    exact ⟨u, by simpa using h1, h2⟩
theorem Vals.set {x : V} {u : Value} (r : RelV x u) : ∀ {xs : List V} {us : List Value} (i : Nat), Vals xs us → Vals (xs.set i x) (us.set i u)
  | _, _, _, .nil => .nil
  | _, _, 0, .cons _ t => .cons r t
  | _, _, i + 1, .cons q t => .cons q (Vals.set r i t)
theorem Vals.append : ∀ {xs ys : List V} {us ws : List Value}, Vals xs us → Vals ys ws → Vals (xs ++ ys) (us ++ ws)
  | _, _, _, _, .nil, s => s
  | _, _, _, _, .cons r t, s => .cons r (Vals.append t s)
theorem Vals.take : ∀ {xs : List V} {us : List Value} (n : Nat), Vals xs us → Vals (xs.take n) (us.take n)
  | _, _, 0, _ => .nil
  | _, _, _ + 1, .nil => .nil
  | _, _, n + 1, .cons r t => .cons r (Vals.take n t)
theorem Vals.drop : ∀ {xs : List V} {us : List Value} (n : Nat), Vals xs us → Vals (xs.drop n) (us.drop n)
  | _, _, 0, r => r
  | _, _, _ + 1, .nil => .nil
  | _, _, n + 1, .cons _ t => Vals.drop n t
def RelO : Option V → Option Value → Prop
  | some v, some u => RelV v u
  | none, none => True
  | _, _ => False
def KV {κ : Type} : List (κ × V) → List (κ × Value) → Prop := Paired fun (p : κ × V) (q : κ × Value) => p.1 = q.1 ∧ RelV p.2 q.2
def kV : Key → V
  | .inl i => .int i
  | .inr x => .str x
inductive HO where
  /-- a list -/
  | lst (xs : List V)
  /-- a tuple (never changes) -/
  | tup (xs : List V)
  /-- a dict whose keys are ints and texts; one whose keys are tuples of ints and texts (the empty one is both) -/
  | dK (kvs : List (Key × V)) | dT (kvs : List (List Key × V))
  /-- a set of ints: its members, its size -/
  | set (S : Int → Bool) (n : Nat)
  /-- an instance of the class at C, its dict at dx, its attributes -/
  | ins (C dx : Addr) (fs : List (Str × V))
  /-- the dict of the instance at x -/
  | own (x : Addr)
  /-- the dict of an exception -/
  | xd (fs : List (Str × V))
  /-- a bound method, f of x -/
  | met (f x : Addr)
  /-- a range object lo, lo + 1, .. below hi -/
  | rng (lo hi : Int)
  /-- a thing that is known to the object (the script; a dict while a loop walks it): read, never written while it is so -/
  | frz (o : Obj) (u : HO)
  /-- a code object's table -/
  | tbl (ps : Array Value)
  /-- any other thing, by what is true of its one object (a def of one's own: SetO a S n := HO.ext fun h => ..) -/
  | ext (φ : Heap → Prop)
abbrev Hp := Addr → Option HO
def upd (H : Hp) (a : Addr) (o : HO) : Hp := fun b => if b = a then some o else H b
theorem upd_same {H : Hp} {a : Addr} {o : HO} : upd H a o a = some o := by unfold upd; rw [if_pos rfl]
theorem upd_ne {H : Hp} {a b : Addr} {o : HO} (h : b ≠ a) : upd H a o b = H b := by unfold upd; rw [if_neg h]
theorem ne_of {H : Hp} {a b : Addr} {o u : HO} (h : H a = some o) (h' : H b = some u) (d : o ≠ u) : a ≠ b := by
  intro e; subst e; rw [h] at h'; exact d (Option.some.inj h')
theorem ne_of_none {H : Hp} {a b : Addr} {o : HO} (h : H a = some o) (h' : H b = none) : a ≠ b := by
  intro e; subst e; rw [h] at h'; cases h'
section
variable (P : Program) (w : World)
def ObjOk (H : Hp) (h : Heap) (a : Addr) : HO → Prop
  | .lst xs => xs.length ≤ sizeLine ∧ ∃ (its : List Value) (n : Nat), Vals xs its ∧ h.get? a = some { cls := .type "list", data := .seq its.toArray n }
  | .tup xs => xs.length ≤ sizeLine ∧ ∃ its : List Value, Vals xs its ∧ IsTup h a its.toArray
  | .dK kvs => kvs.length ≤ sizeLine ∧ (a == sysModules) = false ∧ ∃ vs, KV kvs vs ∧ h.DictOf (mixKind P w) a vs
  | .dT kvs => kvs.length ≤ sizeLine ∧ (a == sysModules) = false ∧ ∃ xs : List (List Key × Addr × Value),
      Paired (fun (p : List Key × V) (q : List Key × Addr × Value) => p.1 = q.1 ∧ H q.2.1 = some (.tup (p.1.map kV)) ∧ RelV p.2 q.2.2) kvs xs ∧
      ∃ o es ep, h.get? a = some o ∧ o.ExactDict ∧ o.data = .dict es ep ∧ es.toList = xs.map (entryOfKey (tupleKind (mixKind P w))) ∧ (xs.map (·.1)).Nodup
  | .set S n => h.SetOf (intKind P w) a S n
  | .ins C dx fs => H dx = some (.own a) ∧ fs.length ≤ 1000 ∧ dx ≠ a ∧ h.get? a = some (PySem.W.instObj C dx) ∧
      ∃ mA, h.Ns1 dx mA ∧ (∀ f, RelO (fs.lookup f) (mA f)) ∧ PySem.Within mA (fs.map (·.1))
  | .own _ => ∃ o, h.get? a = some o
  | .xd fs => ∃ mA, h.Ns1 a mA ∧ ∀ f, RelO (fs.lookup f) (mA f)
  | .rng lo hi => ∃ t u v, h.get? a = some { cls := .type "range", data := .fields #[.int lo t, .int hi u, .int 1 v] }
  | .frz o u => h.get? a = some o ∧ ObjOk H h a u
  | .tbl ps => h.get? a = some { cls := .none, data := .fields ps }
  | .met f x => h.get? a = some (PySem.W.methodObj (.ref f) (.ref x))
  | .ext φ => φ h ∧ (∃ o, h.get? a = some o) ∧ ∀ h1 h2 : Heap, φ h1 → (∀ o, h1.get? a = some o → h2.get? a = some o) → φ h2
def HOk (H : Hp) (h : Heap) : Prop := ∀ a o, H a = some o → ObjOk P w H h a o
end
section
variable {P : Program} {w : World} {H H' : Hp} {h h' : Heap} {a : Addr} {o : HO}
theorem ObjOk.lt (x : ObjOk P w H h a o) : a < h.objs.size := by
  cases o with
  | lst xs => obtain ⟨_, _, _, _, e⟩ := x; exact Heap.lt_size e
  | tup xs => obtain ⟨_, _, _, p⟩ := x; exact p.lt
  | dK kvs => obtain ⟨_, _, _, _, o, _, _, e, _⟩ := x; exact Heap.lt_size e
  | dT kvs => obtain ⟨_, _, _, _, o, _, _, e, _⟩ := x; exact Heap.lt_size e
  | set S n => obtain ⟨o, _, _, _, e, _⟩ := x; exact Heap.lt_size e
  | ins C dx fs => obtain ⟨_, _, _, e, _⟩ := x; exact Heap.lt_size e
  | own y => obtain ⟨_, e⟩ := x; exact Heap.lt_size e
  | xd fs => obtain ⟨_, ⟨_, _, _, e, _⟩, _⟩ := x; exact Heap.lt_size e
  | rng lo hi => obtain ⟨_, _, _, e⟩ := x; exact Heap.lt_size e
  | frz ob u => obtain ⟨e, _⟩ := x; exact Heap.lt_size e
  | tbl ps => exact Heap.lt_size (show h.get? a = some _ from x)
  | met f y => exact Heap.lt_size (show h.get? a = some _ from x)
  | ext φ => obtain ⟨_, ⟨_, e⟩, _⟩ := x; exact Heap.lt_size e
theorem Paired.mapP {α β : Type} {F G : α → β → Prop} : ∀ {l₁ : List α} {l₂ : List β}, Paired F l₁ l₂ → (∀ a b, F a b → G a b) → Paired G l₁ l₂
  | _, _, .nil, _ => .nil
  | _, _, .cons r t, f => .cons (f _ _ r) (Paired.mapP t f)
theorem ObjOk.stay (x : ObjOk P w H h a o) (k : ∀ b u, (b = a ∨ H b = some (.own a)) → h.get? b = some u → h'.get? b = some u)
    (ho : ∀ b, H b = some (.own a) → H' b = some (.own a)) (ht : ∀ b xs, H b = some (.tup xs) → H' b = some (.tup xs)) : ObjOk P w H' h' a o := by
  induction o with
  | lst xs => obtain ⟨z, its, n, r, e⟩ := x; exact ⟨z, its, n, r, k _ _ (.inl rfl) e⟩
  | tup xs => obtain ⟨z, its, r, ob, e, c⟩ := x; exact ⟨z, its, r, ob, k _ _ (.inl rfl) e, c⟩
  | dK kvs => obtain ⟨z, y, vs, r, ob, es, ep, e, c⟩ := x; exact ⟨z, y, vs, r, ob, es, ep, k _ _ (.inl rfl) e, c⟩
  | dT kvs =>
    obtain ⟨z, y, xs, r, ob, es, ep, e, c⟩ := x
    exact ⟨z, y, xs, Paired.mapP r fun p q z => ⟨z.1, ht _ _ z.2.1, z.2.2⟩, ob, es, ep, k _ _ (.inl rfl) e, c⟩
  | set S n => obtain ⟨ob, es, ep, t, e, c⟩ := x; exact ⟨ob, es, ep, t, k _ _ (.inl rfl) e, c⟩
  | ins C dx fs =>
    obtain ⟨d, z, ne, e, mA, ⟨od, es, ep, e2, c⟩, r⟩ := x
    exact ⟨ho _ d, z, ne, k _ _ (.inl rfl) e, mA, ⟨od, es, ep, k _ _ (.inr d) e2, c⟩, r⟩
  | own y => obtain ⟨ob, e⟩ := x; exact ⟨ob, k _ _ (.inl rfl) e⟩
  | xd fs => obtain ⟨mA, ⟨od, es, ep, e, c⟩, r⟩ := x; exact ⟨mA, ⟨od, es, ep, k _ _ (.inl rfl) e, c⟩, r⟩
  | rng lo hi => obtain ⟨t, u, v, e⟩ := x; exact ⟨t, u, v, k _ _ (.inl rfl) e⟩
  | frz ob u ih => obtain ⟨e, q⟩ := x; exact ⟨k _ _ (.inl rfl) e, ih q⟩
  | tbl ps =>
    have e : h.get? a = some { cls := .none, data := .fields ps } := x
    show h'.get? a = some { cls := .none, data := .fields ps }
    exact k a _ (.inl rfl) e
  | met f y =>
    have e : h.get? a = some (PySem.W.methodObj (.ref f) (.ref y)) := x
    show h'.get? a = some (PySem.W.methodObj (.ref f) (.ref y))
    exact k a _ (.inl rfl) e
  | ext φ => obtain ⟨p, ⟨o, e⟩, st⟩ := x; exact ⟨st _ _ p fun o q => k _ _ (.inl rfl) q, ⟨o, k _ _ (.inl rfl) e⟩, st⟩
theorem HOk.lt (x : HOk P w H h) (e : H a = some o) : a < h.objs.size := (x a o e).lt
theorem HOk.fresh (x : HOk P w H h) (e : h.objs.size ≤ a) : H a = none := by
  cases q : H a with
  | none => rfl
  | some u => exact absurd (Nat.lt_of_lt_of_le (x.lt q) e) (Nat.lt_irrefl _)
theorem HOk.kept (x : HOk P w H h) (k : ∀ b u, h.get? b = some u → h'.get? b = some u) : HOk P w H h' := fun a o e =>
  (x a o e).stay (fun b u _ q => k b u q) (fun _ q => q) fun _ _ q => q
theorem HOk.laid (x : HOk P w H h) (k : ∀ b u, h.get? b = some u → h'.get? b = some u) (hp : h.objs.size ≤ a) (new : ObjOk P w (upd H a o) h' a o) : HOk P w (upd H a o) h' := fun b u e => by
  have hn := x.fresh hp
  by_cases hb : b = a
  · subst hb; rw [upd_same] at e; cases e; exact new
  · rw [upd_ne hb] at e
    exact (x b u e).stay (fun c v _ q => k c v q) (fun c q => by rw [upd_ne (ne_of_none q hn)]; exact q) fun c xs q => by rw [upd_ne (ne_of_none q hn)]; exact q
end
def Rd (H : Hp) (a : Addr) (u : HO) : Prop := H a = some u ∨ ∃ o, H a = some (.frz o u)
theorem Rd.ok {P : Program} {w : World} {H : Hp} {h : Heap} {a : Addr} {u : HO} (r : Rd H a u) (x : HOk P w H h) : ObjOk P w H h a u := by
  rcases r with r | ⟨o, r⟩
  · exact x a u r
  · obtain ⟨_, q⟩ := x a _ r
    exact q
def Mut : Option HO → Prop
  | some (.lst _) => True
  | some (.dK _) => True
  | some (.dT _) => True
  | some (.set _ _) => True
  | some (.ins _ _ _) => True
  | some (.ext _) => True
  | _ => False
section
variable {P : Program} {w : World} {H : Hp} {h h' : Heap} {x e : Addr} {o' : HO}
theorem HOk.write (ok : HOk P w H h) (mu : Mut (H x)) (he : e = x ∨ H e = some (.own x)) (k : ∀ b u, b ≠ e → h.get? b = some u → h'.get? b = some u) (heo : ∃ u, h'.get? e = some u)
    (new : ObjOk P w (upd H x o') h' x o') : HOk P w (upd H x o') h' := fun b u q => by
  have nown : ∀ c y, H c = some (.own y) → c ≠ x := fun c y r z => by subst z; rw [r] at mu; exact mu
  have ntup : ∀ c xs, H c = some (.tup xs) → c ≠ x := fun c xs r z => by subst z; rw [r] at mu; exact mu
  by_cases hb : b = x
  · subst hb; rw [upd_same] at q; cases q; exact new
  · rw [upd_ne hb] at q
    by_cases hbe : b = e
    · have q' : H b = some (.own x) := by
        rcases he with z | z
        · exact absurd (hbe.trans z) hb
        · rw [hbe]; exact z
      rw [q] at q'; cases q'
      obtain ⟨v, hv⟩ := heo
      exact ⟨v, by rw [hbe]; exact hv⟩
    · refine (ok b u q).stay (fun c v hc r => k c v ?_ r) (fun c r => by rw [upd_ne (nown c b r)]; exact r) fun c xs r => by rw [upd_ne (ntup c xs r)]; exact r
      rcases hc with rfl | hc
      · exact hbe
      · rintro rfl
        rcases he with z | z
        · exact nown c b hc z
        · rw [hc] at z; cases z; exact hb rfl
end
structure Un (fs ex : List Addr) (H H' : Hp) (h h' : Heap) : Prop where
  keep : ∀ b o, h.get? b = some o → H b = none → b ∉ fs → b ∉ ex → h'.get? b = some o
  slot : ∀ b o, h.get? b = some o → H b = none → b ∈ fs → b ∉ ex → ∃ sl, h'.get? b = some { o with slots := sl }
  free : ∀ b o, h.get? b = some o → H b = none → b ∉ ex → H' b = none
  there : ∀ b o, h.get? b = some o → b ∉ ex → ∃ o', h'.get? b = some o'
  tups : ∀ b xs, H b = some (.tup xs) → H' b = some (.tup xs)
  frzs : ∀ b o u, H b = some (.frz o u) → H' b = some (.frz o u)
  tbls : ∀ b ps, H b = some (.tbl ps) → ∃ more, H' b = some (.tbl (ps ++ more))
section
variable {fs fs' ex ex' : List Addr} {H H1 H2 : Hp} {h h1 h2 h' : Heap} {a x e : Addr} {o : HO}
theorem Un.any (u : Un fs ex H H1 h h1) {b : Addr} {ob : Obj} (q : h.get? b = some ob) (n : H b = none) (hx : b ∉ ex) : ∃ sl, h1.get? b = some { ob with slots := sl } := by
  by_cases hb : b ∈ fs
  · exact u.slot b ob q n hb hx
  · exact ⟨ob.slots, u.keep b ob q n hb hx⟩
theorem Un.kept (k : ∀ b u, h.get? b = some u → h'.get? b = some u) : Un fs ex H H h h' :=
  ⟨fun b ob q _ _ _ => k b ob q, fun b ob q _ _ _ => ⟨ob.slots, k b ob q⟩, fun _ _ _ n _ => n, fun b ob q _ => ⟨ob, k b ob q⟩, fun _ _ q => q, fun _ _ _ q => q, fun _ ps q => ⟨#[], by rw [q]; simp⟩⟩
theorem Un.refl : Un fs ex H H h h := Un.kept fun _ _ q => q
theorem Un.laid (k : ∀ b u, h.get? b = some u → h'.get? b = some u) (hp : h.objs.size ≤ a) (hn : H a = none) : Un fs ex H (upd H a o) h h' where
  keep := fun b u q _ _ _ => k b u q
  slot := fun b u q _ _ _ => ⟨u.slots, k b u q⟩
  free := fun b u q n _ => by rw [upd_ne (Nat.ne_of_lt (Nat.lt_of_lt_of_le (Heap.lt_size q) hp))]; exact n
  there := fun b u q _ => ⟨u, k b u q⟩
  tups := fun b xs q => by rw [upd_ne (ne_of_none q hn)]; exact q
  frzs := fun b u xs q => by rw [upd_ne (ne_of_none q hn)]; exact q
  tbls := fun b ps q => ⟨#[], by rw [upd_ne (ne_of_none q hn), q]; simp⟩
theorem Un.write (mu : Mut (H x)) (he : e = x ∨ H e = some (.own x)) (k : ∀ b u, b ≠ e → h.get? b = some u → h'.get? b = some u) (heo : ∃ u, h'.get? e = some u) : Un fs ex H (upd H x o) h h' := by
  have hx : ∀ b, H b = none → b ≠ x := fun b n z => by subst z; rw [n] at mu; exact mu
  have hb : ∀ b, H b = none → b ≠ e := fun b n z => by
    subst z
    rcases he with r | r
    · exact hx b n r
    · rw [n] at r; cases r
  have hm : ∀ b u, H b = some u → ¬ Mut (some u) → b ≠ x := fun b u q nm z => by subst z; rw [q] at mu; exact nm mu
  refine ⟨fun b u q n _ _ => k b u (hb b n) q, fun b u q n _ _ => ⟨u.slots, k b u (hb b n) q⟩, fun b u q n _ => by rw [upd_ne (hx b n)]; exact n, fun b u q _ => ?_,
    fun b xs q => by rw [upd_ne (hm b _ q fun z => z)]; exact q, fun b u xs q => by rw [upd_ne (hm b _ q fun z => z)]; exact q, fun b ps q => ⟨#[], by rw [upd_ne (hm b _ q fun z => z), q]; simp⟩⟩
  by_cases hbe : b = e
  · subst hbe; exact heo
  · exact ⟨u, k b u hbe q⟩
end
def trk (h : Heap) (H : Hp) : List Addr := (List.range h.objs.size).filter fun a => (H a).isSome
def hidT (h : Heap) (H : Hp) : Heap := PySem.W.hideAll h (trk h H)
theorem hidT_size (h : Heap) (H : Hp) : (hidT h H).objs.size = h.objs.size := PySem.W.hideAll_size _ _
theorem hidT_get {h : Heap} {H : Hp} {b : Addr} {o : Obj} (e : h.get? b = some o) (n : H b = none) : (hidT h H).get? b = some o :=
  PySem.W.hideAll_get _ e fun hm => by
    have q : (H b).isSome = true := (List.mem_filter.mp hm).2
    rw [n] at q; simp at q
theorem of_hidT {h : Heap} {H : Hp} {b : Addr} {o : Obj} (e : (hidT h H).get? b = some o) : h.get? b = some o ∧ H b = none := by
  have e' : h.get? b = some o := PySem.W.of_hideAll (trk h H) e
  refine ⟨e', ?_⟩
  cases q : H b with
  | none => rfl
  | some x =>
    have hm : b ∈ trk h H := List.mem_filter.mpr ⟨List.mem_range.mpr (Heap.lt_size e'), by simp [q]⟩
    have z : (hidT h H).get? b = none := PySem.W.hideAll_none (trk h H) hm
    rw [z] at e; cases e
end L2
namespace L2
open PySem PySem.Spec PyProof.Rows
structure Mod (K : PySem.W.Frag) (mg : Str → Option Value) (base : Heap) : Prop where
  kin : K.In base
  glob : base.Ns mainGlobals mg
  blt : ∃ mb, base.Ns builtinsNs mb ∧ ∀ x : Str, x ≠ "__name__" → mb x = bootBuiltins x
  nolimit : base.NoLimit
structure Cx where
  prog : Program
  w : World
  K : PySem.W.Frag
  mg : Str → Option Value
  base : Heap
  A : Around
  N : List Str
  s_0 : Shared
  H_0 : Hp
  env : Env
  outer : List Env
  stack : List Env
  ex : List Addr
  fn : Str → Bool
  calm : Bool
  pn : List (Addr × Obj)
  xe : Value → Shared → Prop
def frs (l : List Env) : List Addr := l.filterMap (·.frame)
abbrev Cx.fs (X : Cx) : List Addr := frs X.outer
def Vis (sc : Scope) (x : Str) : Prop := sc.names.lookup x = some .local ∨ sc.names.lookup x = some .cell ∨ sc.names.lookup x = some .free
def Loc (sc : Scope) (x : Str) : Prop := sc.names.lookup x = some .local ∨ sc.names.lookup x = some .cell
def Look (env : Env) (h : Heap) (m : Str → Option Value) (x : Str) (u : Value) : Prop :=
  (env.kindOf x = some .local ∧ m x = some u) ∨ ((env.kindOf x = some .cell ∨ env.kindOf x = some .free) ∧ ∃ c, env.cells.lookup x = some c ∧ h.IsCell c (some u))
structure Cx.Ok (X : Cx) : Prop where
  mod : Mod X.K X.mg X.base
  kind : X.env.scope.kind = .function
  glob : X.env.globals = mainGlobals
  blt : X.env.builtins = builtinsNs
  above : X.s_0.heap.objs.size ≤ X.env.locals
  inj : ∀ x y c, X.env.cells.lookup x = some c → X.env.cells.lookup y = some c → x = y
  has : ∀ x, (X.env.kindOf x = some .cell ∨ X.env.kindOf x = some .free) → ∃ c, X.env.cells.lookup x = some c
  cab : ∀ x c, X.fn x = true → X.env.cells.lookup x = some c → X.s_0.heap.objs.size ≤ c
  hd : X.calm = true → X.A.handled = none
  frames : X.A.frames = some X.stack
  stk : X.stack = X.outer ∨ (X.stack = X.env :: X.outer ∧ X.env.frame = some X.env.locals)
  exf : ∀ b ∈ X.ex, b ≠ X.env.locals ∧ ∀ x c, X.env.cells.lookup x = some c → c ≠ b
  bs : ∀ b o, X.base.get? b = some o → X.s_0.heap.get? b = some o ∧ X.H_0 b = none
  bsz : X.base.objs.size ≤ X.s_0.heap.objs.size
  noex : ∀ b o, X.base.get? b = some o → b ∉ X.ex
  exfs : ∀ b ∈ X.ex, b ∉ X.fs
  funs : X.s_0.heap.FunFrames X.base X.outer
  frf : ∀ b ∈ X.fs, X.H_0 b = none
structure Inv (X : Cx) (pins : List (Addr × Obj)) (σ : List (Option V)) (H : Hp) (s : Shared) : Prop where
  ok : X.Ok
  os : s.os = X.s_0.os
  bare : AllBare s.gens
  base : Un X.fs X.ex X.H_0 H X.s_0.heap s.heap
  loc : ∃ m, s.heap.Ns X.env.locals m ∧ ∀ (i : Nat) (x : Str) (v : V), X.N[i]? = some x → σ[i]? = some (some v) → Vis X.env.scope x → ∃ u, RelV v u ∧ Look X.env s.heap m x u
  cell : ∀ x c, X.env.cells.lookup x = some c → ∃ v, s.heap.IsCell c v
  free : H X.env.locals = none
  freeC : ∀ x c, X.env.cells.lookup x = some c → H c = none
  pin : ∀ p ∈ X.pn ++ pins, s.heap.get? p.1 = some p.2 ∧ H p.1 = none ∧ p.1 ≠ X.env.locals ∧ p.1 ∉ X.fs ∧ ∀ v, p.2.data ≠ .cell v
  hok : HOk X.prog X.w H s.heap
  len : σ.length = X.N.length
section
variable {X : Cx} {pins : List (Addr × Obj)} {σ : List (Option V)} {H H' : Hp} {s : Shared} {h' : Heap}
theorem Cx.Ok.nofr (ok : X.Ok) {b : Addr} {o : Obj} (e : X.base.get? b = some o) : b ∉ X.fs := fun hb => by
  have := (ok.funs.mem hb).1
  rw [e] at this; cases this
theorem Inv.bs (I : Inv X pins σ H s) : ∀ b o, X.base.get? b = some o → s.heap.get? b = some o ∧ H b = none := fun b o e =>
  ⟨I.base.keep b o (I.ok.bs b o e).1 (I.ok.bs b o e).2 (I.ok.nofr e) (I.ok.noex b o e), I.base.free b o (I.ok.bs b o e).1 (I.ok.bs b o e).2 (I.ok.noex b o e)⟩
theorem Inv.bk (I : Inv X pins σ H s) : ∀ b o, X.base.get? b = some o → s.heap.get? b = some o := fun b o e => (I.bs b o e).1
theorem Inv.mod (I : Inv X pins σ H s) : Mod X.K X.mg X.base := I.ok.mod
theorem Inv.kIn (I : Inv X pins σ H s) : X.K.In s.heap := I.ok.mod.kin.keeps I.bk
theorem Inv.lt (I : Inv X pins σ H s) : X.env.locals < s.heap.objs.size := let ⟨_, hn, _⟩ := I.loc; hn.lt
theorem Inv.sz (I : Inv X pins σ H s) : X.s_0.heap.objs.size ≤ s.heap.objs.size := Nat.le_trans I.ok.above (Nat.le_of_lt I.lt)
theorem Inv.nofs (I : Inv X pins σ H s) {a : Addr} (h : s.heap.objs.size ≤ a) : a ∉ X.fs := fun hb => by
  obtain ⟨_, o, ho, _⟩ := I.ok.funs.mem hb
  exact absurd (Nat.lt_of_lt_of_le (Heap.lt_size ho) (Nat.le_trans I.sz h)) (Nat.lt_irrefl _)
theorem Inv.cne (I : Inv X pins σ H s) : ∀ x c, X.env.cells.lookup x = some c → c ≠ X.env.locals := fun x c e z => by
  obtain ⟨v, o, ho, hd⟩ := I.cell x c e
  obtain ⟨m, ⟨o', es, ep, ho', hd', _⟩, _⟩ := I.loc
  rw [z, ho'] at ho; cases ho; rw [hd'] at hd; cases hd
theorem Inv.funs (I : Inv X pins σ H s) : s.heap.FunFrames X.base X.outer := by
  have all : ∀ (l : List Env), (∀ b ∈ frs l, b ∈ X.fs) → X.s_0.heap.FunFrames X.base l → s.heap.FunFrames X.base l := by
    intro l
    induction l with
    | nil => intro _ _; trivial
    | cons env r ih =>
      intro hs hl
      obtain ⟨hk, ⟨L, o, hf, hn, ho, hd⟩, hr⟩ := hl
      have hL : L ∈ X.fs := hs L (by unfold frs; rw [List.filterMap_cons, hf]; exact List.mem_cons_self)
      obtain ⟨sl, e⟩ := I.base.slot L o ho (I.ok.frf L hL) hL fun z => I.ok.exfs L z hL
      exact ⟨hk, ⟨L, _, hf, hn, e, hd⟩, ih (fun b hb => hs b (by unfold frs; rw [List.filterMap_cons, hf]; exact List.mem_cons_of_mem _ hb)) hr⟩
  exact all X.outer (fun _ hb => hb) I.ok.funs
theorem Inv.stack (I : Inv X pins σ H s) : s.heap.FunFrames X.base X.stack := by
  rcases I.ok.stk with e | ⟨e, hf⟩
  · rw [e]; exact I.funs
  · rw [e]
    obtain ⟨m, hn, _⟩ := I.loc
    refine .cons (by rw [I.ok.kind]; decide) hf hn ?_ I.funs
    exact Heap.get?_none_of_le (Nat.le_trans I.ok.bsz I.ok.above)
theorem Inv.stkSub (I : Inv X pins σ H s) : ∀ b ∈ frs X.stack, b ∈ X.env.locals :: X.fs := fun b hb => by
  rcases I.ok.stk with e | ⟨e, hf⟩
  · rw [e] at hb; exact List.mem_cons_of_mem _ hb
  · rw [e] at hb
    unfold frs at hb
    rw [List.filterMap_cons, hf] at hb
    exact hb
theorem Inv.stkFree (I : Inv X pins σ H s) : ∀ b ∈ frs X.stack, H b = none := fun b hb => by
  rcases List.mem_cons.mp (I.stkSub b hb) with e | hb
  · rw [e]; exact I.free
  · obtain ⟨_, o, ho, _⟩ := I.ok.funs.mem hb
    exact I.base.free b o ho (I.ok.frf b hb) fun z => I.ok.exfs b z hb
theorem Inv.step {g' : Array GenState} {t' : Nat} {d' : Drawn} {ch : List Addr} (I : Inv X pins σ H s)
    (hch : ∀ b ∈ ch, (b ∈ X.ex ∨ X.s_0.heap.objs.size ≤ b) ∧ b ≠ X.env.locals ∧ (∀ x c, X.env.cells.lookup x = some c → c ≠ b) ∧ ∀ p ∈ X.pn ++ pins, p.1 ≠ b)
    (keep : ∀ b o, b ≠ X.env.locals → b ∉ X.fs → b ∉ ch → s.heap.get? b = some o → H b = none → h'.get? b = some o)
    (slot : ∀ b o, b ≠ X.env.locals → b ∈ X.fs → b ∉ ch → s.heap.get? b = some o → H b = none → ∃ sl, h'.get? b = some { o with slots := sl }) (free : ∀ b o, b ∉ ch → s.heap.get? b = some o → H b = none → H' b = none)
    (there : ∀ b o, b ∉ ch → s.heap.get? b = some o → ∃ o', h'.get? b = some o')
    (tups : ∀ b xs, H b = some (.tup xs) → H' b = some (.tup xs)) (frzs : ∀ b o u, H b = some (.frz o u) → H' b = some (.frz o u)) (tbls : ∀ b ps, H b = some (.tbl ps) → ∃ more, H' b = some (.tbl (ps ++ more)))
    (ns : ∀ m, s.heap.Ns X.env.locals m → h'.Ns X.env.locals m) (hok : HOk X.prog X.w H' h') (hg : AllBare g') :
    Inv X pins σ H' { s with heap := h', gens := g', drawn := d', toks := t' } := by
  have neL : ∀ b o, X.s_0.heap.get? b = some o → b ≠ X.env.locals := fun b o e => Nat.ne_of_lt (Nat.lt_of_lt_of_le (Heap.lt_size e) I.ok.above)
  have neC : ∀ b o, X.s_0.heap.get? b = some o → b ∉ X.ex → b ∉ ch := fun b o e hx hb => by
    rcases (hch b hb).1 with z | z
    · exact hx z
    · exact absurd (Nat.lt_of_lt_of_le (Heap.lt_size e) z) (Nat.lt_irrefl _)
  have cellK : ∀ x c, X.env.cells.lookup x = some c → ∀ v, s.heap.IsCell c v → h'.IsCell c v := fun x c e v ⟨o, ho, hd⟩ => by
    have nch : c ∉ ch := fun z => (hch c z).2.2.1 x c e rfl
    by_cases hc : c ∈ X.fs
    · obtain ⟨sl, q⟩ := slot c o (I.cne x c e) hc nch ho (I.freeC x c e)
      exact ⟨_, q, hd⟩
    · exact ⟨o, keep c o (I.cne x c e) hc nch ho (I.freeC x c e), hd⟩
  refine ⟨I.ok, I.os, hg, ⟨fun b o e n hb hx => ?_, fun b o e n hb hx => ?_, fun b o e n hx => ?_, fun b o e hx => ?_, fun b xs e => tups b xs (I.base.tups b xs e), fun b o xs e => frzs b o xs (I.base.frzs b o xs e), fun b ps e => ?_⟩, ?_, fun x c e => ?_, ?_, fun x c e => ?_, fun p hp => ?_, hok, I.len⟩
  · exact keep b o (neL b o e) hb (neC b o e hx) (I.base.keep b o e n hb hx) (I.base.free b o e n hx)
  · obtain ⟨sl, e1⟩ := I.base.slot b o e n hb hx
    obtain ⟨sl', e2⟩ := slot b _ (neL b o e) hb (neC b o e hx) e1 (I.base.free b o e n hx)
    exact ⟨sl', e2⟩
  · obtain ⟨o', e1⟩ := I.base.there b o e hx
    exact free b o' (neC b o e hx) e1 (I.base.free b o e n hx)
  · obtain ⟨o', e1⟩ := I.base.there b o e hx
    exact there b o' (neC b o e hx) e1
  · obtain ⟨m1, e1⟩ := I.base.tbls b ps e
    obtain ⟨m2, e2⟩ := tbls b _ e1
    exact ⟨m1 ++ m2, by rw [e2, Array.append_assoc]⟩
  · obtain ⟨m, hn, hl⟩ := I.loc
    refine ⟨m, ns m hn, fun i x v e1 e2 e3 => ?_⟩
    obtain ⟨u, r, l⟩ := hl i x v e1 e2 e3
    refine ⟨u, r, ?_⟩
    rcases l with l | ⟨k, c, e, z⟩
    · exact .inl l
    · exact .inr ⟨k, c, e, cellK x c e _ z⟩
  · obtain ⟨v, z⟩ := I.cell x c e
    exact ⟨v, cellK x c e v z⟩
  · obtain ⟨m, ⟨o, _, _, ho, _⟩, _⟩ := I.loc
    exact free _ o (fun z => (hch _ z).2.1 rfl) ho I.free
  · obtain ⟨v, o, ho, hd⟩ := I.cell x c e
    exact free c o (fun z => (hch c z).2.2.1 x c e rfl) ho (I.freeC x c e)
  · obtain ⟨e, n, ne, nf, d⟩ := I.pin p hp
    have nch : p.1 ∉ ch := fun z => (hch p.1 z).2.2.2 p hp rfl
    exact ⟨keep p.1 p.2 ne nf nch e n, free p.1 p.2 nch e n, ne, nf, d⟩
theorem Inv.un {t' : Nat} (I : Inv X pins σ H s) (u : Un X.fs [] H H' s.heap h') (hok : HOk X.prog X.w H' h') : Inv X pins σ H' { s with heap := h', toks := t' } := by
  obtain ⟨m, ⟨o, es, ep, ho, r⟩, _⟩ := id I.loc
  obtain ⟨sl, hL⟩ := u.any ho I.free (by simp)
  exact I.step (g' := s.gens) (d' := s.drawn) (ch := []) (fun _ z => nomatch z) (fun b o _ hb _ e n => u.keep b o e n hb (by simp)) (fun b o _ hb _ e n => u.slot b o e n hb (by simp)) (fun b o _ e n => u.free b o e n (by simp)) (fun b o _ e => u.there b o e (by simp)) u.tups u.frzs u.tbls (fun m' hm => by
    obtain ⟨o', es', ep', ho', r'⟩ := hm
    rw [ho] at ho'; cases ho'
    exact ⟨_, es', ep', hL, r'⟩) hok I.bare
theorem Inv.call {g' : Array GenState} {t' : Nat} {d' : Drawn} {ch : List Addr} (I : Inv X pins σ H s) (u : Un (frs X.stack) ch H H' s.heap h') (hok : HOk X.prog X.w H' h') (hg : AllBare g')
    (hch : ∀ b ∈ ch, (b ∈ X.ex ∨ X.s_0.heap.objs.size ≤ b) ∧ b ≠ X.env.locals ∧ (∀ x c, X.env.cells.lookup x = some c → c ≠ b) ∧ ∀ p ∈ X.pn ++ pins, p.1 ≠ b) :
    Inv X pins σ H' { s with heap := h', gens := g', drawn := d', toks := t' } := by
  obtain ⟨m, ⟨o, es, ep, ho, r⟩, _⟩ := id I.loc
  obtain ⟨sl, hL⟩ := u.any ho I.free fun z => (hch _ z).2.1 rfl
  exact I.step (ch := ch) hch (fun b o hL hb hc e n => u.keep b o e n (fun z => (List.mem_cons.mp (I.stkSub b z)).elim hL hb) hc) (fun b o _ _ hc e n => u.any e n hc) (fun b o hc e n => u.free b o e n hc) (fun b o hc e => u.there b o e hc) u.tups u.frzs u.tbls (fun m' hm => by
    obtain ⟨o', es', ep', ho', r'⟩ := hm
    rw [ho] at ho'; cases ho'
    exact ⟨_, es', ep', hL, r'⟩) hok hg
theorem Inv.turned {t' : Nat} {it : Addr} (I : Inv X pins σ H s) (k : ∀ b o, b ≠ it → s.heap.get? b = some o → h'.get? b = some o) (hn : H it = none) (hL : it ≠ X.env.locals)
    (h1 : it ∈ X.ex ∨ X.s_0.heap.objs.size ≤ it) (h2 : ∀ x c, X.env.cells.lookup x = some c → c ≠ it) (h3 : ∀ p ∈ X.pn ++ pins, p.1 ≠ it) : Inv X pins σ H { s with heap := h', toks := t' } := by
  have nit : ∀ b u, H b = some u → b ≠ it := fun b u e z => by rw [z, hn] at e; cases e
  refine I.step (g' := s.gens) (d' := s.drawn) (ch := [it]) (fun b hb => ?_) (fun b o _ _ hc e _ => k b o (fun z => hc (by simp [z])) e) (fun b o _ _ hc e _ => ⟨o.slots, k b o (fun z => hc (by simp [z])) e⟩) (fun _ _ _ _ n => n)
    (fun b o hc e => ⟨o, k b o (fun z => hc (by simp [z])) e⟩) (fun _ _ e => e) (fun _ _ _ e => e) (fun b ps e => ⟨#[], by rw [e]; simp⟩) (fun m hm => ?_) (fun b u e => ?_) I.bare
  · have e : b = it := by simpa using hb
    subst e
    exact ⟨h1, hL, h2, h3⟩
  · obtain ⟨o, es, ep, ho, r⟩ := hm
    exact ⟨o, es, ep, k _ o (Ne.symm hL) ho, r⟩
  · refine (I.hok b u e).stay (fun c v hc q => k c v ?_ q) (fun _ q => q) fun _ _ q => q
    rcases hc with z | z
    · rw [z]; exact nit b u e
    · exact nit c _ z
theorem Inv.tok (I : Inv X pins σ H s) (t : Nat) : Inv X pins σ H { s with toks := t } := I.un (h' := s.heap) (t' := t) Un.refl I.hok
theorem Inv.kept {t' : Nat} (I : Inv X pins σ H s) (k : ∀ b u, s.heap.get? b = some u → h'.get? b = some u) : Inv X pins σ H { s with heap := h', toks := t' } := I.un (Un.kept k) (I.hok.kept k)
theorem Inv.laid {a : Addr} {o : HO} {t' : Nat} (I : Inv X pins σ H s) (k : ∀ b u, s.heap.get? b = some u → h'.get? b = some u) (hp : s.heap.objs.size ≤ a) (new : ObjOk X.prog X.w (upd H a o) h' a o) :
    Inv X pins σ (upd H a o) { s with heap := h', toks := t' } := I.un (Un.laid k hp (I.hok.fresh hp)) (I.hok.laid k hp new)
theorem Inv.write {x e : Addr} {o : HO} {t' : Nat} (I : Inv X pins σ H s) (mu : Mut (H x)) (he : e = x ∨ H e = some (.own x)) (k : ∀ b u, b ≠ e → s.heap.get? b = some u → h'.get? b = some u) (heo : ∃ u, h'.get? e = some u)
    (new : ObjOk X.prog X.w (upd H x o) h' x o) : Inv X pins σ (upd H x o) { s with heap := h', toks := t' } := I.un (Un.write mu he k heo) (I.hok.write mu he k heo new)
theorem Inv.weak {σ' : List (Option V)} (I : Inv X pins σ H s) (hl : σ'.length = σ.length) (w : ∀ (i : Nat) v, σ'[i]? = some (some v) → σ[i]? = some (some v)) : Inv X pins σ' H s :=
  ⟨I.ok, I.os, I.bare, I.base, let ⟨m, hn, hl'⟩ := I.loc; ⟨m, hn, fun i x v e1 e2 e3 => hl' i x v e1 (w i v e2) e3⟩, I.cell, I.free, I.freeC, I.pin, I.hok, hl.trans I.len⟩
theorem Inv.pins_of {pins' : List (Addr × Obj)} (I : Inv X pins σ H s) (h : ∀ p ∈ pins', s.heap.get? p.1 = some p.2 ∧ H p.1 = none ∧ p.1 ≠ X.env.locals ∧ p.1 ∉ X.fs ∧ ∀ v, p.2.data ≠ .cell v) : Inv X pins' σ H s :=
  ⟨I.ok, I.os, I.bare, I.base, I.loc, I.cell, I.free, I.freeC, fun p hp => (List.mem_append.mp hp).elim (fun z => I.pin p (List.mem_append_left _ z)) (h p), I.hok, I.len⟩
theorem nodup_ix {N : List Str} (hN : N.Nodup) {i j : Nat} {x : Str} (a : N[i]? = some x) (b : N[j]? = some x) : i = j := by
  obtain ⟨h1, e1⟩ := List.getElem?_eq_some_iff.mp a
  obtain ⟨h2, e2⟩ := List.getElem?_eq_some_iff.mp b
  exact (List.getElem_inj hN).mp (e1.trans e2.symm)
theorem store_ok2 {M : Model} {A : Around} {E : Value → Shared → Prop} {i : Nat} {x : Str} {v : V} {u : Value} {Q : Unit → Shared → Prop} (I : Inv X pins σ H s) (hN : X.N.Nodup) (hi : X.N[i]? = some x) (hx : Loc X.env.scope x) (r : RelV v u)
    (h : ∀ s', Inv X pins (σ.set i (some v)) H s' → (∃ a, Heap.SameBut a s.heap s'.heap ∧ (a = X.env.locals ∨ X.env.cells.lookup x = some a)) → Q () s') (hf : X.fn x = true ∨ X.env.scope.names.lookup x = some .local := by first | exact .inl rfl | exact .inr rfl | assumption) : wpAny M A (storeName X.env x u) Q E s := by
  obtain ⟨m, hn, hl⟩ := id I.loc
  have hcls : (X.env.scope.kind == .class || (X.env.scope.kind == .module && X.env.locals != X.env.globals)) = false := by rw [I.ok.kind]; rfl
  have hiσ : i < σ.length := by rw [I.len]; exact (List.getElem?_eq_some_iff.mp hi).1
  have cne := I.cne
  have tracked : ∀ {a : Addr} {h' : Heap}, (∃ o, s.heap.get? a = some o ∧ H a = none) → Heap.SameBut a s.heap h' → HOk X.prog X.w H h' := fun {a h'} ha hs b ob e => by
    obtain ⟨_, _, hfree⟩ := ha
    refine (I.hok b ob e).stay (fun c w' hc q => (hs.2 c ?_).trans q) (fun _ q => q) fun _ _ q => q
    rintro rfl
    rcases hc with rfl | hc
    · rw [hfree] at e; cases e
    · rw [hfree] at hc; cases hc
  rcases hx with hk | hk
  · refine wpAny_storeName_local hk hn (fun h' hn' hs => ?_) hcls
    obtain ⟨oL, _, _, hoL, _⟩ := id hn
    refine h _ ⟨I.ok, I.os, I.bare, ⟨fun b o e n hb hx => ?_, fun b o e n hb hx => ?_, I.base.free, fun b o e hx => ?_, I.base.tups, I.base.frzs, I.base.tbls⟩, ⟨_, hn', fun j y v' e1 e2 e3 => ?_⟩, fun y c e => ?_, I.free, I.freeC, fun p hp => ?_, tracked ⟨oL, hoL, I.free⟩ hs, by simpa using I.len⟩ ⟨_, hs, .inl rfl⟩
    · exact (hs.2 b (Nat.ne_of_lt (Nat.lt_of_lt_of_le (Heap.lt_size e) I.ok.above))).trans (I.base.keep b o e n hb hx)
    · obtain ⟨sl, e1⟩ := I.base.slot b o e n hb hx
      exact ⟨sl, (hs.2 b (Nat.ne_of_lt (Nat.lt_of_lt_of_le (Heap.lt_size e) I.ok.above))).trans e1⟩
    · obtain ⟨o', e1⟩ := I.base.there b o e hx
      exact ⟨o', (hs.2 b (Nat.ne_of_lt (Nat.lt_of_lt_of_le (Heap.lt_size e) I.ok.above))).trans e1⟩
    · by_cases hj : j = i
      · subst hj
        rw [hi] at e1; cases e1
        rw [List.getElem?_set_self hiσ] at e2
        cases e2
        exact ⟨u, r, .inl ⟨hk, by simp⟩⟩
      · rw [List.getElem?_set_ne (Ne.symm hj)] at e2
        obtain ⟨u', r', q⟩ := hl j y v' e1 e2 e3
        refine ⟨u', r', ?_⟩
        rcases q with ⟨k, e⟩ | ⟨k, c, e, z⟩
        · refine .inl ⟨k, ?_⟩
          have : y ≠ x := fun e => hj (nodup_ix hN e1 (e ▸ hi))
          simp [this, e]
        · exact .inr ⟨k, c, e, z.sameBut hs (cne y c e)⟩
    · obtain ⟨w', z⟩ := I.cell y c e
      exact ⟨w', z.sameBut hs (cne y c e)⟩
    · obtain ⟨e, n, ne, nf, d⟩ := I.pin p hp
      exact ⟨(hs.2 p.1 ne).trans e, n, ne, nf, d⟩
  · have hfn : X.fn x = true := by
      rcases hf with z | z
      · exact z
      · rw [z] at hk; cases hk
    obtain ⟨c, hc⟩ := I.ok.has x (.inl hk)
    obtain ⟨w', z⟩ := I.cell x c hc
    refine wpAny_storeName_cell I.ok.kind hk hc z (fun h' hc' hs => ?_)
    obtain ⟨oc, hoc, hocd⟩ := id z
    refine h { s with heap := h' } ⟨I.ok, I.os, I.bare, ⟨fun b o e n hb hx => ?_, fun b o e n hb hx => ?_, I.base.free, fun b o e hx => ?_, I.base.tups, I.base.frzs, I.base.tbls⟩, ⟨m, hn.sameBut hs (Ne.symm (cne x c hc)), fun j y v' e1 e2 e3 => ?_⟩, fun y c' e => ?_, I.free, I.freeC, fun p hp => ?_, tracked ⟨oc, hoc, I.freeC x c hc⟩ hs, by simpa using I.len⟩ ⟨c, hs, .inr hc⟩
    · exact (hs.2 b (Nat.ne_of_lt (Nat.lt_of_lt_of_le (Heap.lt_size e) (I.ok.cab x c hfn hc)))).trans (I.base.keep b o e n hb hx)
    · obtain ⟨sl, e1⟩ := I.base.slot b o e n hb hx
      exact ⟨sl, (hs.2 b (Nat.ne_of_lt (Nat.lt_of_lt_of_le (Heap.lt_size e) (I.ok.cab x c hfn hc)))).trans e1⟩
    · obtain ⟨o', e1⟩ := I.base.there b o e hx
      exact ⟨o', (hs.2 b (Nat.ne_of_lt (Nat.lt_of_lt_of_le (Heap.lt_size e) (I.ok.cab x c hfn hc)))).trans e1⟩
    · by_cases hj : j = i
      · subst hj
        rw [hi] at e1; cases e1
        rw [List.getElem?_set_self hiσ] at e2
        cases e2
        exact ⟨u, r, .inr ⟨.inl hk, c, hc, hc'⟩⟩
      · rw [List.getElem?_set_ne (Ne.symm hj)] at e2
        obtain ⟨u', r', q⟩ := hl j y v' e1 e2 e3
        refine ⟨u', r', ?_⟩
        rcases q with q | ⟨k, c', e, z'⟩
        · exact .inl q
        · refine .inr ⟨k, c', e, z'.sameBut hs ?_⟩
          rintro rfl
          exact hj (nodup_ix hN e1 (I.ok.inj _ _ _ e hc ▸ hi))
    · by_cases hcc : c' = c
      · subst hcc; exact ⟨_, hc'⟩
      · obtain ⟨w2, z2⟩ := I.cell y c' e
        exact ⟨w2, z2.sameBut hs hcc⟩
    · obtain ⟨e, n, ne, nf, d⟩ := I.pin p hp
      refine ⟨(hs.2 p.1 ?_).trans e, n, ne, nf, d⟩
      intro q
      rw [q, hoc] at e
      have q' : oc = p.2 := Option.some.inj e
      exact d w' (by rw [← q']; exact hocd)
theorem store_ok {M : Model} {A : Around} {E : Value → Shared → Prop} {i : Nat} {x : Str} {v : V} {u : Value} {Q : Unit → Shared → Prop} (I : Inv X pins σ H s) (hN : X.N.Nodup) (hi : X.N[i]? = some x) (hx : Loc X.env.scope x) (r : RelV v u)
    (h : ∀ s', Inv X pins (σ.set i (some v)) H s' → Q () s') (hf : X.fn x = true ∨ X.env.scope.names.lookup x = some .local := by first | exact .inl rfl | exact .inr rfl | assumption) : wpAny M A (storeName X.env x u) Q E s :=
  store_ok2 I hN hi hx r (fun s' I' _ => h s' I') hf
theorem Inv.call' {s' : Shared} {ch : List Addr} (I : Inv X pins σ H s) (ho : s'.os = s.os) (u : Un (frs X.stack) ch H H' s.heap s'.heap) (hok : HOk X.prog X.w H' s'.heap) (hg : AllBare s'.gens)
    (hch : ∀ b ∈ ch, (b ∈ X.ex ∨ X.s_0.heap.objs.size ≤ b) ∧ b ≠ X.env.locals ∧ (∀ x c, X.env.cells.lookup x = some c → c ≠ b) ∧ ∀ p ∈ X.pn ++ pins, p.1 ≠ b) : Inv X pins σ H' s' := by
  obtain ⟨h', g', d', t', o'⟩ := s'
  have e : o' = s.os := ho
  subst e
  exact I.call (g' := g') (t' := t') (d' := d') u hok hg hch
end
abbrev XK := Value → Option Addr → Hp → Prop
abbrev St := List (Option V)
abbrev VK := V → Hp → Prop
abbrev TE := St → Hp → VK → Prop
abbrev TT := St → Hp → (Bool → Hp → Prop) → Prop
abbrev TA := St → Hp → (List V → Hp → Prop) → Prop
structure Ends where
  nx : St → Hp → Prop
  rt : VK
  bk : St → Hp → Prop := fun _ _ => False
  ct : St → Hp → Prop := fun _ _ => False
abbrev TS := Ends → St → Hp → Prop
def EP (X : Cx) (pins : List (Addr × Obj)) (σ : St) (Q : VK) (u : Value) (s' : Shared) : Prop := ∃ v H', Inv X pins σ H' s' ∧ RelV v u ∧ Q v H'
def TP (X : Cx) (pins : List (Addr × Obj)) (σ : St) (Q : Bool → Hp → Prop) (b : Bool) (s' : Shared) : Prop := ∃ H', Inv X pins σ H' s' ∧ Q b H'
def AP (X : Cx) (pins : List (Addr × Obj)) (σ : St) (Q : List V → Hp → Prop) (us : List Value) (s' : Shared) : Prop := ∃ vs H', Inv X pins σ H' s' ∧ Vals vs us ∧ Q vs H'
def SP (X : Cx) (pins : List (Addr × Obj)) (D : Ends) (f : Flow) (s' : Shared) : Prop :=
  match f with
  | .next => ∃ σ' H', Inv X pins σ' H' s' ∧ D.nx σ' H'
  | .brk => ∃ σ' H', Inv X pins σ' H' s' ∧ D.bk σ' H'
  | .cont => ∃ σ' H', Inv X pins σ' H' s' ∧ D.ct σ' H'
  | .ret u => ∃ v σ' H', Inv X pins σ' H' s' ∧ RelV v u ∧ D.rt v H'
def PE (X : Cx) (e : Expr) (t : TE) : Prop :=
  ∀ (pins : List (Addr × Obj)) (s : Shared) (σ : St) (H : Hp) (Q : VK), Inv X pins σ H s → t σ H Q → wpAny (model X.prog X.w) X.A (eval e X.env) (EP X pins σ Q) X.xe s
def PT (X : Cx) (e : Expr) (t : TT) : Prop :=
  ∀ (pins : List (Addr × Obj)) (s : Shared) (σ : St) (H : Hp) (Q : Bool → Hp → Prop), Inv X pins σ H s → t σ H Q → wpAny (model X.prog X.w) X.A (isTrue e X.env (eval e X.env)) (TP X pins σ Q) X.xe s
def PW (X : Cx) (e : Expr) (t : TT) : Prop :=
  ∀ (whole : Sem Value) (pins : List (Addr × Obj)) (s : Shared) (σ : St) (H : Hp) (Q : Bool → Hp → Prop), Inv X pins σ H s → t σ H Q → wpAny (model X.prog X.w) X.A (isTrue e X.env whole) (TP X pins σ Q) X.xe s
theorem PW.pt {X : Cx} {e : Expr} {t : TT} (h : PW X e t) : PT X e t := h _
def PA (X : Cx) (es : List Expr) (t : TA) : Prop :=
  ∀ (pos : Pos) (pins : List (Addr × Obj)) (s : Shared) (σ : St) (H : Hp) (Q : List V → Hp → Prop), Inv X pins σ H s → t σ H Q → wpAny (model X.prog X.w) X.A (spliced (backTo pos (starEach es X.env))) (AP X pins σ Q) X.xe s
def PS (X : Cx) (st : Stmt) (t : TS) : Prop :=
  ∀ (pins : List (Addr × Obj)) (s : Shared) (σ : St) (H : Hp) (D : Ends), Inv X pins σ H s → t D σ H → wpAny (model X.prog X.w) X.A (exec st X.env) (SP X pins D) X.xe s
def PSs (X : Cx) (st : List Stmt) (t : TS) : Prop :=
  ∀ (pins : List (Addr × Obj)) (s : Shared) (σ : St) (H : Hp) (D : Ends), Inv X pins σ H s → t D σ H → wpAny (model X.prog X.w) X.A (execs st X.env) (SP X pins D) X.xe s
theorem thn {α : Type} {t : Sem α} {Q Q' : α → Shared → Prop} {M : Model} {A : Around} {E : Value → Shared → Prop} {s : Shared} (h : wpAny M A t Q E s) (hQ : ∀ a s, Q a s → Q' a s) : wpAny M A t Q' E s := wpAny_mono h hQ fun _ _ x => x
end L2
namespace L2
open PySem PySem.Spec PyProof.Rows
section
variable {X : Cx}
theorem bin {a b : Expr} {ta tb : TE} (ha : PE X a ta) (hb : PE X b tb) {pins : List (Addr × Obj)} {s : Shared} {σ : St} {H : Hp} {R : V → V → Hp → Prop} (I : Inv X pins σ H s) (h : ta σ H fun x H1 => tb σ H1 fun y H2 => R x y H2)
    {α : Type} {Q : α → Shared → Prop} {f : Value → Value → Sem α}
    (hf : ∀ v u s2 x y H2, Inv X pins σ H2 s2 → RelV x v → RelV y u → R x y H2 → wpAny (model X.prog X.w) X.A (f v u) Q X.xe s2) :
    wpAny (model X.prog X.w) X.A (eval a X.env) (fun v s₁ => wpAny (model X.prog X.w) X.A (eval b X.env) (fun u s₂ => wpAny (model X.prog X.w) X.A (f v u) Q X.xe s₂) X.xe s₁) X.xe s := by
  refine thn (ha pins s σ H _ I h) fun v s1 ⟨x, H1, I1, r1, q1⟩ => ?_
  refine thn (hb pins s1 σ H1 _ I1 q1) fun u s2 ⟨y, H2, I2, r2, q2⟩ => ?_
  exact hf v u s2 x y H2 I2 r1 r2 q2
def tVar (i : Nat) : TE := fun σ H Q => ∃ v, σ[i]? = some (some v) ∧ Q v H
def tC (v : V) : TE := fun _ H Q => Q v H
theorem pe_var {i : Nat} {x : Str} {pos : Pos} (hN : X.N[i]? = some x) (hv : Vis X.env.scope x) (hd : (x == ("__debug__" : Str)) = false := by decide) (hcd : (x == ("__classdict__" : Str)) = false := by decide) : PE X (.Name x pos) (tVar i) := by
  intro pins s σ H Q I h
  obtain ⟨v, e, h⟩ := h
  obtain ⟨m, hn, hl⟩ := I.loc
  obtain ⟨u, r, l⟩ := hl i x v hN e hv
  have fin : EP X pins σ Q u s := ⟨v, H, I, r, h⟩
  rcases l with ⟨hk, hm⟩ | ⟨hk, c, hc, hcell⟩
  · exact wpAny_Name (wpAny_loadName_local I.ok.kind hk hn hm fin) hd
  · rcases hk with hk | hk
    · exact wpAny_Name (wpAny_loadName_cell I.ok.kind hk hc hcell fin) hd
    · exact wpAny_Name (wpAny_loadName_free I.ok.kind hk hc hcell fin hcd) hd
theorem pe_int {i j pos} : PE X (.Constant (.int i) j pos) (tC (.int i)) := fun _ _ _ H _ I h => wpAny_Constant_int ⟨.int i, H, I.tok _, ⟨_, rfl⟩, h⟩
theorem pe_bl {b j pos} : PE X (.Constant (.bool b) j pos) (tC (.bl b)) := fun _ _ _ H _ I h => Constant_bool ⟨.bl b, H, I, rfl, h⟩
def Gl (X : Cx) (x : Str) : Prop := X.env.kindOf x = some .globalImplicit
theorem ld_glob {E : Value → Shared → Prop} {pins : List (Addr × Obj)} {s : Shared} {σ : St} {H : Hp} {x : Str} {u : Value} {pos : Pos} {Q : Value → Shared → Prop} (I : Inv X pins σ H s) (hg : Gl X x) (hm : X.mg x = some u) (h : Q u s)
    (hd : (x == ("__debug__" : Str)) = false := by decide) : wpAny (model X.prog X.w) X.A (eval (.Name x pos) X.env) Q E s :=
  Calls.Name_function_global I.ok.kind hg (Calls.loadGlobal_global (by rw [I.ok.glob]; exact I.mod.glob.keeps I.bk) hm h) hd
theorem ld_blt {E : Value → Shared → Prop} {pins : List (Addr × Obj)} {s : Shared} {σ : St} {H : Hp} {x : Str} {u : Value} {pos : Pos} {Q : Value → Shared → Prop} (I : Inv X pins σ H s) (hg : Gl X x) (hm : X.mg x = none) (hv : bootBuiltins x = some u) (h : Q u s)
    (hn : x ≠ "__name__" := by decide) (hd : (x == ("__debug__" : Str)) = false := by decide) : wpAny (model X.prog X.w) X.A (eval (.Name x pos) X.env) Q E s := by
  obtain ⟨mb, h1, h2⟩ := I.mod.blt
  exact Calls.Name_function_global I.ok.kind hg (Calls.loadGlobal_builtin (by rw [I.ok.glob]; exact I.mod.glob.keeps I.bk) hm (by rw [I.ok.blt]; exact h1.keeps I.bk) ((h2 x hn).trans hv) h) hd
theorem pe_glob {x : Str} {v : V} {u : Value} {pos : Pos} (hg : Gl X x) (hm : X.mg x = some u) (r : RelV v u) (hd : (x == ("__debug__" : Str)) = false := by decide) : PE X (.Name x pos) (tC v) :=
  fun _ _ _ H _ I h => ld_glob I hg hm ⟨v, H, I, r, h⟩ hd
def t2I (ta tb : TE) (k : Int → Int → Hp → Prop) : St → Hp → Prop := fun σ H => ta σ H fun x H1 => tb σ H1 fun y H2 => ∃ i j, x = .int i ∧ y = .int j ∧ k i j H2
variable {a b : Expr} {ta tb : TE} {pos : Pos}
def PC (X : Cx) (op : CmpOp) (a b : Expr) (t : TE) : Prop :=
  ∀ (pins : List (Addr × Obj)) (s : Shared) (σ : St) (H : Hp) (Q : VK), Inv X pins σ H s → t σ H Q →
    wpAny (model X.prog X.w) X.A (eval a X.env) (fun v s₁ => wpAny (model X.prog X.w) X.A (eval b X.env) (fun u s₂ => wpAny (model X.prog X.w) X.A (compareOp op v u) (EP X pins σ Q) X.xe s₂) X.xe s₁) X.xe s
theorem nobehind (b : Expr) {op : CmpOp} (h : op ≠ .In) (h2 : op ≠ .NotIn) : behindInMarks op b = false := by
  have e1 : (op == CmpOp.In) = false := by cases op <;> first | rfl | exact absurd rfl h
  have e2 : (op == CmpOp.NotIn) = false := by cases op <;> first | rfl | exact absurd rfl h2
  cases b <;> simp [behindInMarks, e1, e2]
def tCmp (p : Int → Int → Bool) (ta tb : TE) : TE := fun σ H Q => t2I ta tb (fun i j H2 => Q (.bl (p i j)) H2) σ H
abbrev tLt : TE → TE → TE := tCmp fun i j => decide (i < j)
abbrev tLe : TE → TE → TE := tCmp fun i j => decide (i ≤ j)
abbrev tGt : TE → TE → TE := tCmp fun i j => decide (j < i)
abbrev tEqI : TE → TE → TE := tCmp fun i j => decide (i = j)
abbrev tNeI : TE → TE → TE := tCmp fun i j => !decide (i = j)
theorem pc_int {op : CmpOp} {p : Int → Int → Bool} (ha : PE X a ta) (hb : PE X b tb)
    (rule : ∀ (i j : Int) (t u : Tok) (Q : Value → Shared → Prop) (s : Shared), Q (.bool (p i j)) s → wpAny (model X.prog X.w) X.A (compareOp op (.int i t) (.int j u)) Q X.xe s) : PC X op a b (tCmp p ta tb) := by
  intro pins s σ H Q I h
  refine bin ha hb I h fun v u s2 x y H2 I2 rx ry q => ?_
  obtain ⟨i, j, rfl, rfl, q⟩ := q
  obtain ⟨t, rfl⟩ := rx
  obtain ⟨t', rfl⟩ := ry
  exact rule i j t t' _ s2 ⟨.bl _, H2, I2, rfl, q⟩
theorem pc_lt (ha : PE X a ta) (hb : PE X b tb) : PC X .Lt a b (tLt ta tb) := pc_int ha hb fun _ _ _ _ _ _ h => lt_int h
theorem pc_le (ha : PE X a ta) (hb : PE X b tb) : PC X .LtE a b (tLe ta tb) := pc_int ha hb fun _ _ _ _ _ _ h => le_int h
theorem pc_gt (ha : PE X a ta) (hb : PE X b tb) : PC X .Gt a b (tGt ta tb) := pc_int ha hb fun _ _ _ _ _ _ h => gt_int h
theorem pc_eqI (ha : PE X a ta) (hb : PE X b tb) : PC X .Eq a b (tEqI ta tb) := pc_int ha hb fun _ _ _ _ _ _ h => eq_int (by rw [Bool.beq_eq_decide_eq]; exact h)
theorem pc_neI (ha : PE X a ta) (hb : PE X b tb) : PC X .NotEq a b (tNeI ta tb) := pc_int ha hb fun _ _ _ _ _ _ h => ne_int (by rw [bne, Bool.beq_eq_decide_eq]; exact h)
def tB (t : TE) : TT := fun σ H Q => t σ H fun x H1 => ∃ c, x = .bl c ∧ Q c H1
theorem pe_cmp {op : CmpOp} {t : TE} (h : PC X op a b t) (h1 : behindInMarks op b = false := by first | exact nobehind _ (by decide) (by decide) | rfl) : PE X (.Compare a [op] [b] pos) t := fun pins s σ H Q I hw => wpAny_Compare1 (h pins s σ H Q I hw) h1
theorem pt_cmp {op : CmpOp} {t : TE} (h : PC X op a b t) (h1 : behindInMarks op b = false := by first | exact nobehind _ (by decide) (by decide) | rfl) : PT X (.Compare a [op] [b] pos) (tB t) := by
  intro pins s σ H Q I hw
  refine wpAny_isTrue_Compare1 (thn (h pins s σ H _ I hw) fun v s1 h1 => thn h1 fun u s2 h2 => thn h2 fun c s3 ⟨x, H1, I1, r1, q1⟩ => ?_) h1
  obtain ⟨d, rfl, q⟩ := q1
  cases r1
  exact wpAny_truthy_bool ⟨H1, I1, q⟩
theorem pt_val {e : Expr} {t : TE} (h : PE X e t) (he : ∀ whole, isTrue e X.env whole = (do let v ← whole; standAt e.pos; holding [v] (truthy v)) := by intro _; rfl) : PT X e (tB t) := by
  intro pins s σ H Q I hw
  refine isTrue_plain (thn (h pins s σ H _ I hw) fun v s1 ⟨x, H1, I1, r1, q1⟩ => ?_) (he _)
  obtain ⟨d, rfl, q⟩ := q1
  cases r1
  exact wpAny_truthy_bool ⟨H1, I1, q⟩
variable {tA tB' : TT} {rest : List Expr}
def tAnd (t u : TT) : TT := fun σ H Q => t σ H fun c H1 => if c = true then u σ H1 Q else Q false H1
def tOr (t u : TT) : TT := fun σ H Q => t σ H fun c H1 => if c = true then Q true H1 else u σ H1 Q
def tNot (t : TT) : TT := fun σ H Q => t σ H fun c H1 => Q (!c) H1
theorem pw_and1 (ha : PT X a tA) : PW X (.BoolOp .And [a] pos) tA := by
  intro wh pins s σ H Q I h
  refine isTrue_and (thn (ha pins s σ H Q I h) fun c s1 e => ?_)
  cases c with
  | true => exact isTrue_and_nil e
  | false => exact e
theorem pw_or1 (ha : PT X a tA) : PW X (.BoolOp .Or [a] pos) tA := by
  intro wh pins s σ H Q I h
  refine isTrue_or (thn (ha pins s σ H Q I h) fun c s1 e => ?_)
  cases c with
  | false => exact isTrue_or_nil e
  | true => exact e
theorem pw_and (ha : PT X a tA) (hb : PW X (.BoolOp .And (b :: rest) pos) tB') : PW X (.BoolOp .And (a :: b :: rest) pos) (tAnd tA tB') := by
  intro wh pins s σ H Q I h
  refine isTrue_and (thn (ha pins s σ H _ I h) fun c s1 ⟨H1, I1, q1⟩ => ?_)
  cases c with
  | true => exact hb wh pins s1 σ H1 Q I1 q1
  | false => exact ⟨H1, I1, q1⟩
theorem pw_or (ha : PT X a tA) (hb : PW X (.BoolOp .Or (b :: rest) pos) tB') : PW X (.BoolOp .Or (a :: b :: rest) pos) (tOr tA tB') := by
  intro wh pins s σ H Q I h
  refine isTrue_or (thn (ha pins s σ H _ I h) fun c s1 ⟨H1, I1, q1⟩ => ?_)
  cases c with
  | true => exact ⟨H1, I1, q1⟩
  | false => exact hb wh pins s1 σ H1 Q I1 q1
theorem pt_not (ha : PT X a tA) : PT X (.UnaryOp .Not a pos) (tNot tA) := by
  intro pins s σ H Q I h
  exact isTrue_not (ha pins s σ H (fun c H1 => Q (!c) H1) I h)
def tIf (t : TT) (ta tb : TE) : TE := fun σ H Q => t σ H fun c H1 => if c = true then ta σ H1 Q else tb σ H1 Q
theorem pe_ifExp {c : Expr} (hc : PT X c tA) (ha : PE X a ta) (hb : PE X b tb) : PE X (.IfExp c a b pos) (tIf tA ta tb) := by
  intro pins s σ H Q I h
  refine wpAny_IfExp (thn (hc pins s σ H _ I h) fun d s1 ⟨H1, I1, q1⟩ => ?_)
  cases d with
  | true => exact ha pins s1 σ H1 Q I1 q1
  | false => exact hb pins s1 σ H1 Q I1 q1
end
end L2
namespace L2
open PySem PySem.Spec PyProof.Rows
def SqL (K : PySem.W.Frag) (H : Hp) (a : Addr) (xs : List V) : Prop :=
  Rd H a (.lst xs) ∨
    ∃ (o : Obj) (its : Array Value) (n : Nat), K.lookup a = some o ∧ o.cls = .type "list" ∧ o.dict = none ∧ o.data = .seq its n ∧ its.size ≤ sizeLine ∧ Vals xs its.toList
def SqT (K : PySem.W.Frag) (H : Hp) (a : Addr) (xs : List V) : Prop :=
  Rd H a (.tup xs) ∨
    ∃ (o : Obj) (its : Array Value) (n : Nat), K.lookup a = some o ∧ o.cls = .type "tuple" ∧ o.data = .seq its n ∧ its.size ≤ sizeLine ∧ Vals xs its.toList
def absV : Value → Option V
  | .none => some .non
  | .bool b => some (.bl b)
  | .int i _ => some (.int i)
  | .str x _ => some (.str x)
  | .bytes b _ => some (.byt b)
  | .float b _ => some (.flt b)
  | .ref a => some (.ref a)
  | .type n => some (.ty n)
  | _ => none
theorem RelV.abs {x : V} {u : Value} (r : RelV x u) : absV u = some x := by
  cases x with
  | non => cases r; rfl
  | bl _ => cases r; rfl
  | int _ => obtain ⟨t, rfl⟩ := r; rfl
  | str _ => obtain ⟨t, rfl⟩ := r; rfl
  | byt _ => obtain ⟨t, rfl⟩ := r; rfl
  | flt _ => obtain ⟨t, rfl⟩ := r; rfl
  | ref _ => cases r; rfl
  | ty _ => cases r; rfl
theorem RelV.inj {x y : V} {u : Value} (r : RelV x u) (q : RelV y u) : x = y := Option.some.inj (r.abs.symm.trans q.abs)
theorem Vals.inj : ∀ {xs ys : List V} {us : List Value}, Vals xs us → Vals ys us → xs = ys
  | _, _, _, .nil, .nil => rfl
  | _, _, _, .cons r t, .cons r' t' => by rw [r.inj r', Vals.inj t t']
section
variable {X : Cx} {pins : List (Addr × Obj)} {σ : St} {H : Hp} {s : Shared} {a : Addr} {xs ys : List V}
theorem SqL.of {K : PySem.W.Frag} (h : H a = some (.lst xs)) : SqL K H a xs := .inl (.inl h)
theorem SqT.of {K : PySem.W.Frag} (h : H a = some (.tup xs)) : SqT K H a xs := .inl (.inl h)
theorem Inv.list (I : Inv X pins σ H s) (h : SqL X.K H a xs) : ∃ its : List Value, Vals xs its ∧ PlainL s.heap a its.toArray ∧ xs.length ≤ sizeLine := by
  rcases h with h | ⟨o, its, n, hk, hc, hd, hs, hz, r⟩
  · obtain ⟨z, its, n, r, e⟩ := h.ok I.hok
    exact ⟨its, r, ⟨_, n, e, rfl, rfl, rfl⟩, z⟩
  · refine ⟨its.toList, r, ⟨o, n, I.kIn a o hk, hc, hd, by simpa using hs⟩, ?_⟩
    have e := r.length
    simp only [Array.length_toList] at e
    omega
theorem Inv.tuple (I : Inv X pins σ H s) (h : SqT X.K H a xs) : ∃ its : List Value, Vals xs its ∧ IsTup s.heap a its.toArray ∧ xs.length ≤ sizeLine := by
  rcases h with h | ⟨o, its, n, hk, hc, hs, hz, r⟩
  · obtain ⟨z, its, r, p⟩ := h.ok I.hok
    exact ⟨its, r, p, z⟩
  · refine ⟨its.toList, r, ⟨o, I.kIn a o hk, hc, n, by simpa using hs⟩, ?_⟩
    have e := r.length
    simp only [Array.length_toList] at e
    omega
theorem Inv.list_inj (I : Inv X pins σ H s) (h : SqL X.K H a xs) (h' : SqL X.K H a ys) : xs = ys := by
  obtain ⟨its, r, ⟨o, n, e, _, _, d⟩, _⟩ := I.list h
  obtain ⟨its', r', ⟨o', n', e', _, _, d'⟩, _⟩ := I.list h'
  rw [e] at e'; cases e'
  rw [d] at d'
  injection d' with d1 _
  have : its = its' := by simpa using congrArg Array.toList d1
  subst this
  exact r.inj r'
theorem Inv.tuple_inj (I : Inv X pins σ H s) (h : SqT X.K H a xs) (h' : SqT X.K H a ys) : xs = ys := by
  obtain ⟨its, r, ⟨o, e, _, n, d⟩, _⟩ := I.tuple h
  obtain ⟨its', r', ⟨o', e', _, n', d'⟩, _⟩ := I.tuple h'
  rw [e] at e'; cases e'
  rw [d] at d'
  injection d' with d1 _
  have : its = its' := by simpa using congrArg Array.toList d1
  subst this
  exact r.inj r'
end
abbrev Cx.wish (X : Cx) (E : Value → Shared → Prop) : Cx := { X with xe := E }
abbrev Cx.nox (X : Cx) : Cx := X.wish fun _ _ => False
theorem Cx.Ok.wish {X : Cx} (ok : X.Ok) (E : Value → Shared → Prop) : (X.wish E).Ok :=
  ⟨ok.mod, ok.kind, ok.glob, ok.blt, ok.above, ok.inj, ok.has, ok.cab, ok.hd, ok.frames, ok.stk, ok.exf, ok.bs, ok.bsz, ok.noex, ok.exfs, ok.funs, ok.frf⟩
theorem Cx.Ok.unwish {X : Cx} {E : Value → Shared → Prop} (ok : (X.wish E).Ok) : X.Ok :=
  ⟨ok.mod, ok.kind, ok.glob, ok.blt, ok.above, ok.inj, ok.has, ok.cab, ok.hd, ok.frames, ok.stk, ok.exf, ok.bs, ok.bsz, ok.noex, ok.exfs, ok.funs, ok.frf⟩
section
variable {X : Cx} {pins : List (Addr × Obj)} {σ : St} {H : Hp} {s : Shared} {E : Value → Shared → Prop}
theorem Inv.wish (I : Inv X pins σ H s) (E : Value → Shared → Prop) : Inv (X.wish E) pins σ H s := ⟨I.ok.wish E, I.os, I.bare, I.base, I.loc, I.cell, I.free, I.freeC, I.pin, I.hok, I.len⟩
theorem Inv.unwish (I : Inv (X.wish E) pins σ H s) : Inv X pins σ H s := ⟨I.ok.unwish, I.os, I.bare, I.base, I.loc, I.cell, I.free, I.freeC, I.pin, I.hok, I.len⟩
theorem SP.unwish {D : Ends} {f : Flow} {s' : Shared} (h : SP (X.wish E) pins D f s') : SP X pins D f s' := by
  cases f with
  | next => obtain ⟨σ', H', I, q⟩ := h; exact ⟨σ', H', I.unwish, q⟩
  | brk => obtain ⟨σ', H', I, q⟩ := h; exact ⟨σ', H', I.unwish, q⟩
  | cont => obtain ⟨σ', H', I, q⟩ := h; exact ⟨σ', H', I.unwish, q⟩
  | ret u => obtain ⟨v, σ', H', I, r, q⟩ := h; exact ⟨v, σ', H', I.unwish, r, q⟩
theorem PSs.nox {st : List Stmt} {t : TS} (h : PSs X.nox st t) : PSs X st t := fun pins s σ H D I hw =>
  wpAny_mono (h pins s σ H D (I.wish _) hw) (fun _ _ q => q.unwish) fun _ _ z => False.elim z
end
section
variable {X : Cx} {st : Stmt} {rest : List Stmt} {t u : TS} {e : Expr} {te : TE} {pos : Pos}
def tNext : TS := fun D σ H => D.nx σ H
def tSeq (t u : TS) : TS := fun D σ H => t { D with nx := u D } σ H
theorem pss_nil : PSs X [] tNext := fun _ _ σ H _ I h => wpAny_execs_nil ⟨σ, H, I, h⟩
theorem pss_cons (h1 : PS X st t) (h2 : PSs X rest u) : PSs X (st :: rest) (tSeq t u) := by
  intro pins s σ H D I h
  refine wpAny_execs_cons (thn (h1 pins s σ H { D with nx := u D } I h) fun f s1 q => ?_)
  cases f with
  | next =>
    obtain ⟨σ', H', I', q⟩ := q
    exact h2 pins s1 σ' H' D I' q
  | ret v => exact q
  | brk => exact q
  | cont => exact q
theorem pss_one (h1 : PS X st t) : PSs X [st] t := by
  intro pins s σ H D I h
  refine wpAny_execs_cons (thn (h1 pins s σ H D I h) fun f s1 q => ?_)
  cases f with
  | next => exact wpAny_execs_nil q
  | ret v => exact q
  | brk => exact q
  | cont => exact q
theorem Inv.quiet {pins : List (Addr × Obj)} {σ : St} {H : Hp} {s : Shared} (I : Inv X pins σ H s) : interactive X.env = false := by simp [interactive, I.ok.kind]
def tDrop (te : TE) : TS := fun D σ H => te σ H fun _ H1 => D.nx σ H1
theorem ps_expr (he : PE X e te) (hs : swapsWith e none pos.line X.env = pure false := by rfl) : PS X (.Expr e pos) (tDrop te) := by
  intro pins s σ H D I h
  exact wpAny_Expr_any (thn (he pins s σ H _ I h) fun v s1 ⟨x, H1, I1, r1, q1⟩ => ⟨σ, H1, I1, q1⟩) I.quiet hs
def tRet (te : TE) : TS := fun D σ H => te σ H D.rt
theorem ps_ret (he : PE X e te) : PS X (.Return (some e) pos) (tRet te) := by
  intro pins s σ H D I h
  exact wpAny_Return_some (thn (he pins s σ H _ I h) fun v s1 ⟨x, H1, I1, r1, q1⟩ => ⟨x, σ, H1, I1, r1, q1⟩)
def tIfS (c : TT) (t u : TS) : TS := fun D σ H => c σ H fun b H1 => if b = true then t D σ H1 else u D σ H1
theorem ps_if {c : Expr} {a b : List Stmt} {tc : TT} (hc : PT X c tc) (ha : PSs X a t) (hb : PSs X b u) : PS X (.If c a b pos) (tIfS tc t u) := by
  intro pins s σ H D I h
  refine wpAny_If (thn (hc pins s σ H _ I h) fun d s1 ⟨H1, I1, q1⟩ => ?_)
  cases d with
  | true => exact ha pins s1 σ H1 D I1 q1
  | false => exact hb pins s1 σ H1 D I1 q1
end
abbrev TG := V → St → Hp → (St → Hp → Prop) → Prop
abbrev TGs := List V → St → Hp → (St → Hp → Prop) → Prop
def PG (X : Cx) (target : Expr) (t : TG) : Prop :=
  ∀ (pins : List (Addr × Obj)) (s : Shared) (σ : St) (H : Hp) (v : V) (u : Value) (Q : St → Hp → Prop), Inv X pins σ H s → RelV v u → t v σ H Q →
    wpAny (model X.prog X.w) X.A (assign target X.env u) (fun _ s' => ∃ σ' H', Inv X pins σ' H' s' ∧ Q σ' H') X.xe s
def PGs (X : Cx) (ts : List Expr) (t : TGs) : Prop :=
  ∀ (pins : List (Addr × Obj)) (s : Shared) (σ : St) (H : Hp) (vs : List V) (us : List Value) (Q : St → Hp → Prop), Inv X pins σ H s → Vals vs us → t vs σ H Q →
    wpAny (model X.prog X.w) X.A (assignInOrder ((assignEach ts X.env).map (·.2)) us) (fun _ s' => ∃ σ' H', Inv X pins σ' H' s' ∧ Q σ' H') X.xe s
abbrev TSet := V → V → V → Hp → (Hp → Prop) → Prop
def PSet (X : Cx) (t : TSet) : Prop :=
  ∀ (pins : List (Addr × Obj)) (s : Shared) (σ : St) (H : Hp) (o i v : V) (ov iv u : Value) (Q : Hp → Prop), Inv X pins σ H s → RelV o ov → RelV i iv → RelV v u → t o i v H Q →
    wpAny (model X.prog X.w) X.A (setItem ov iv u) (fun _ s' => ∃ H', Inv X pins σ H' s' ∧ Q H') X.xe s
section
variable {X : Cx} {pos : Pos}
def gName (i : Nat) : TG := fun v σ H Q => Q (σ.set i (some v)) H
theorem pg_name {i : Nat} {x : Str} (hN : X.N.Nodup) (hi : X.N[i]? = some x) (hx : Loc X.env.scope x) (hf : X.fn x = true ∨ X.env.scope.names.lookup x = some .local := by first | exact .inl rfl | exact .inr rfl | assumption) : PG X (.Name x pos) (gName i) := by
  intro pins s σ H v u Q I r h
  exact wpAny_assign_Name (store_ok I hN hi hx r (fun s' I' => ⟨_, H, I', h⟩) hf)
def gNil : TGs := fun vs σ H Q => vs = [] ∧ Q σ H
def gCons (t : TG) (u : TGs) : TGs := fun vs σ H Q => ∃ v r, vs = v :: r ∧ t v σ H fun σ' H' => u r σ' H' Q
theorem pgs_nil : PGs X [] gNil := by
  intro pins s σ H vs us Q I r h
  obtain ⟨e, h⟩ := h
  subst e
  cases r
  exact assignInOrder_nil ⟨σ, H, I, h⟩
theorem pgs_cons {e : Expr} {es : List Expr} {t : TG} {u : TGs} (h1 : PG X e t) (h2 : PGs X es u)
    (hs : (assignEach (e :: es) X.env).map (·.2) = assign e X.env :: (assignEach es X.env).map (·.2) := by rfl) : PGs X (e :: es) (gCons t u) := by
  intro pins s σ H vs us Q I r h
  obtain ⟨v, vr, e1, h⟩ := h
  subst e1
  cases r with
  | cons r rr =>
    rw [hs]
    refine assignInOrder_cons (thn (h1 pins s σ H _ _ _ I r h) fun _ s1 ⟨σ1, H1, I1, q1⟩ => ?_)
    exact h2 pins s1 σ1 H1 _ _ Q I1 rr q1
def gTup (K : PySem.W.Frag) (n : Nat) (t : TGs) : TG := fun v σ H Q => ∃ a xs, v = .ref a ∧ SqT K H a xs ∧ xs.length = n ∧ t xs σ H Q
theorem pg_tup {es : List Expr} {k : Nat} {t : TGs} {n : Nat} (hc : X.calm = true) (h : PGs X es t)
    (hn : (assignEach es X.env).length = n := by rfl) (hst : (assignEach es X.env).findIdx? (·.1) = none := by rfl) : PG X (.Tuple es k pos) (gTup X.K n t) := by
  intro pins s σ H v u Q I r hw
  obtain ⟨a, xs, e1, hq, hl, hw⟩ := hw
  subst e1
  cases r
  obtain ⟨its, rv, ht, hz⟩ := I.tuple hq
  refine assign_Tuple_tuple (I.ok.hd hc) ht (by simp [hn, ← hl, rv.length]) hst fun h' hx => ?_
  have I1 : Inv X pins σ H { s with heap := h' } := I.kept (t' := s.toks) fun b o e => hx b o (Nat.ne_of_lt (Heap.lt_size e)) e
  exact h pins _ σ H xs _ Q I1 (by simpa using rv) hw
def gSub (to ti : TE) (t : TSet) : TG := fun v σ H Q => to σ H fun o H1 => ti σ H1 fun i H2 => t o i v H2 fun H3 => Q σ H3
theorem pg_sub {o i : Expr} {to ti : TE} {t : TSet} (ho : PE X o to) (hi : PE X i ti) (hs : PSet X t)
    (ha : ∀ v, assign (.Subscript o i pos) X.env v = (do
      let ov ← holding [v] (eval o X.env)
      let iv ← holding [v, ov] (eval i X.env)
      standAt pos
      holding [v, ov, iv] (setItem ov iv v)
      release [v, ov, iv] []) := by intro _; rfl) : PG X (.Subscript o i pos) (gSub to ti t) := by
  intro pins s σ H v u Q I r h
  rw [ha]
  refine wpAny_bind (wpAny_holding (thn (ho pins s σ H _ I h) fun ov s1 ⟨x, H1, I1, r1, q1⟩ => ?_))
  refine wpAny_bind (wpAny_holding (thn (hi pins s1 σ H1 _ I1 q1) fun iv s2 ⟨y, H2, I2, r2, q2⟩ => ?_))
  refine wpAny_bind (wpAny_standAt (wpAny_bind (wpAny_holding (thn (hs pins s2 σ H2 x y v ov iv u _ I2 r1 r2 r q2) fun _ s3 ⟨H3, I3, q3⟩ => ?_))))
  exact wpAny_release ⟨σ, H3, I3, q3⟩
def tAsg (te : TE) (g : TG) : TS := fun D σ H => te σ H fun x H1 => g x σ H1 D.nx
theorem ps_asg {tg e : Expr} {te : TE} {g : TG} (he : PE X e te) (hg : PG X tg g) (hs : swapsWithSole [tg] e pos.line X.env = pure false := by rfl) (hw : swappedStores [tg] e X.env = pure none := by rfl)
    (h1 : (assignEach [tg] X.env).map (·.2) = [assign tg X.env] := by rfl) : PS X (.Assign [tg] e pos) (tAsg te g) := by
  intro pins s σ H D I h
  refine wpAny_Assign_stores (thn (he pins s σ H _ I h) fun v s1 ⟨x, H1, I1, r1, q1⟩ => ?_) hs hw
  rw [h1]
  exact thn (hg pins s1 σ H1 x v _ I1 r1 q1) fun _ s2 q => q
theorem ps_set {i : Nat} {x : Str} {e : Expr} {te : TE} {pos' : Pos} (hN : X.N.Nodup) (hi : X.N[i]? = some x) (hx : Loc X.env.scope x) (he : PE X e te) (hs : swapsWith e (some (.Name x pos')) pos.line X.env = pure false := by rfl) (hf : X.fn x = true ∨ X.env.scope.names.lookup x = some .local := by first | exact .inl rfl | exact .inr rfl | assumption) :
    PS X (.Assign [.Name x pos'] e pos) (tAsg te (gName i)) := by
  intro pins s σ H D I h
  refine wpAny_Assign_Name (thn (he pins s σ H _ I h) fun v s1 ⟨y, H1, I1, r1, q1⟩ => ?_) hs
  exact store_ok I1 hN hi hx r1 (fun s2 I2 => ⟨_, H1, I2, q1⟩) hf
end
section
variable {X : Cx} {pos : Pos}
def tWhile (c : TT) (tb : TS) : TS := fun D σ H => ∃ W : Nat → St → Hp → Prop, (∃ m, W m σ H) ∧ ∀ m σ H, W m σ H →
  c σ H fun b H1 => if b = true then ∃ N : St → Hp → Prop, (∀ σ' H', N σ' H' → ∃ m', m' < m ∧ W m' σ' H') ∧ tb { D with nx := N, ct := N, bk := D.nx } σ H1 else D.nx σ H1
theorem ps_while {c : Expr} {body : List Stmt} {tc : TT} {tb : TS} (hp : PassesOwn (model X.prog X.w) X.A X.env X.xe) (hc : PT X c tc) (hb : PSs X body tb) : PS X (.While c body [] pos) (tWhile tc tb) := by
  intro pins s σ H D I h
  obtain ⟨W, ⟨m0, w0⟩, turn⟩ := h
  refine wpAny_While (codeAny_whileLoop (fun n s' => ∃ σ' H', Inv X pins σ' H' s' ∧ W n σ' H') ?_ m0 ⟨σ, H, I, w0⟩)
  rintro n s1 ⟨σ1, H1, I1, w1⟩
  refine wpAny_passesOwn hp (thn (hc pins s1 σ1 H1 _ I1 (turn n σ1 H1 w1)) fun b s2 ⟨H2, I2, q2⟩ => ?_)
  cases b with
  | true =>
    obtain ⟨N, hN, q2⟩ := q2
    rw [if_pos rfl]
    refine wpAny_passesOwn hp (thn (hb pins s2 σ1 H2 _ I2 q2) fun f s3 q3 => ?_)
    cases f with
    | next =>
      obtain ⟨σ3, H3, I3, n3⟩ := q3
      obtain ⟨m', hm, w3⟩ := hN σ3 H3 n3
      exact ⟨m', hm, σ3, H3, I3, w3⟩
    | cont =>
      obtain ⟨σ3, H3, I3, n3⟩ := q3
      obtain ⟨m', hm, w3⟩ := hN σ3 H3 n3
      exact ⟨m', hm, σ3, H3, I3, w3⟩
    | brk => exact q3
    | ret v => exact q3
  | false =>
    rw [if_neg Bool.false_ne_true]
    exact wpAny_execs_nil ⟨σ1, H2, I2, q2⟩
end
structure It where
  go : Nat → Hp → Prop
  yld : Nat → Hp → V → Hp → Prop
  stop : Nat → Hp → Prop
def FpOk (X : Cx) (pins : List (Addr × Obj)) (H : Hp) (b : Addr) : Prop :=
  H b = none ∧ b ≠ X.env.locals ∧ b ∉ X.fs ∧ (b ∈ X.ex ∨ X.s_0.heap.objs.size ≤ b) ∧ (∀ x c, X.env.cells.lookup x = some c → c ≠ b) ∧ ∀ p ∈ X.pn ++ pins, p.1 ≠ b
theorem Inv.fpOk {X : Cx} {pins : List (Addr × Obj)} {σ : St} {H H' : Hp} {s : Shared} {b : Addr} (I : Inv X pins σ H s) (hb : s.heap.objs.size ≤ b) (hn : H' b = none) : FpOk X pins H' b := by
  refine ⟨hn, Nat.ne_of_gt (Nat.lt_of_lt_of_le I.lt hb), I.nofs hb, .inr (Nat.le_trans I.sz hb), fun x c e z => ?_, fun p hp z => ?_⟩
  · obtain ⟨v, q⟩ := I.cell x c e
    exact absurd (Nat.lt_of_lt_of_le q.lt (by rw [z]; exact hb)) (Nat.lt_irrefl _)
  · exact absurd (Nat.lt_of_lt_of_le (Heap.lt_size (I.pin p hp).1) (by rw [z]; exact hb)) (Nat.lt_irrefl _)
structure Turn (P : Program) (w : World) (K : PySem.W.Frag) (tg : Expr) (J : It) (fp : List Addr) (it : Addr) (tn : Nat → Heap → Prop) : Prop where
  mem : it ∈ fp
  obj : ∀ i h, tn i h → ∀ b ∈ fp, ∃ o, h.get? b = some o ∧ ∀ v, o.data ≠ .cell v
  keep : ∀ i h h', tn i h → (∀ b ∈ fp, ∀ o, h.get? b = some o → h'.get? b = some o) → tn i h'
  item : ∀ (X : Cx), X.prog = P → X.w = w → X.K = K → X.calm = true → ∀ (i : Nat) (pins : List (Addr × Obj)) (s : Shared) (σ : St) (H : Hp) (E : Value → Shared → Prop), Inv X pins σ H s → (∀ b ∈ fp, FpOk X pins H b) → tn i s.heap → J.go i H →
    wpAny (model P w) X.A (pyNext (.ref it)) (fun r s1 => ∃ u, r = some u ∧
      wpAny (model P w) X.A (letOwnedTupleGo tg (.ref it) u) (fun _ s2 => ∃ x H', Inv X pins σ H' s2 ∧ RelV x u ∧ J.yld i H x H' ∧ tn (i + 1) s2.heap ∧ ∀ b ∈ fp, H' b = none) E s1) E s
  done : ∀ (X : Cx), X.prog = P → X.w = w → X.K = K → X.calm = true → ∀ (i : Nat) (pins : List (Addr × Obj)) (s : Shared) (σ : St) (H : Hp) (E : Value → Shared → Prop), Inv X pins σ H s → (∀ b ∈ fp, FpOk X pins H b) → tn i s.heap → J.stop i H →
    wpAny (model P w) X.A (pyNext (.ref it)) (fun r s1 => r = none ∧ Inv X pins σ H s1) E s
  self : ∀ (A : Around) (i : Nat) (s : Shared) (Q : Value → Shared → Prop) (E : Value → Shared → Prop), tn i s.heap → Q (.ref it) s → wpAny (model P w) A (pyIter (.ref it)) Q E s
abbrev TI := St → Hp → (It → Hp → Prop) → Prop
def PIE (X : Cx) (pins : List (Addr × Obj)) (σ : St) (tg : Expr) (R : It → Hp → Prop) (itv : Value) (s2 : Shared) : Prop :=
  ∃ (it : Addr) (fp : List Addr) (tn : Nat → Heap → Prop) (J : It) (H' : Hp), itv = .ref it ∧ Inv X pins σ H' s2 ∧ Turn X.prog X.w X.K tg J fp it tn ∧ tn 0 s2.heap ∧ (∀ b ∈ fp, FpOk X pins H' b) ∧ R J H'
def PI (X : Cx) (tg iter : Expr) (wi : TI) : Prop :=
  ∀ (pins : List (Addr × Obj)) (s : Shared) (σ : St) (H : Hp) (R : It → Hp → Prop), Inv X pins σ H s → wi σ H R →
    wpAny (model X.prog X.w) X.A (eval iter X.env) (fun v s1 => wpAny (model X.prog X.w) X.A (pyIter v) (PIE X pins σ tg R) X.xe s1) X.xe s
theorem go_of {M : Model} {A : Around} {E : Value → Shared → Prop} {s : Shared} {tg : Expr} {it : Addr} {u : Value} {o : Obj} {n : String} {vs : Array Value} {Q : Unit → Shared → Prop} (ho : s.heap.get? it = some o) (hc : o.cls = .type n) (hd : o.data = .fields vs)
    (hn : ["enumerate", "zip", "dict_itemiterator", "dict_reverseitemiterator", "odict_iterator", "itertools.zip_longest", "itertools.pairwise"].contains n = false) (hQ : Q () s) : wpAny M A (letOwnedTupleGo tg (.ref it) u) Q E s := by
  unfold letOwnedTupleGo
  cases tg <;> first
    | exact wpAny_pure hQ
    | (cases u <;> first
        | exact wpAny_pure hQ
        | (refine wpAny_bind (wpAny_load ho ?_)
           rw [hc, hd]
           show wpAny M A (if (["enumerate", "zip", "dict_itemiterator", "dict_reverseitemiterator", "odict_iterator", "itertools.zip_longest", "itertools.pairwise"].contains n && vs[0]? == some (rawInt _)) = true then _ else _) Q E s
           rw [if_neg (by intro h; rw [hn, Bool.false_and] at h; cases h)]
           exact wpAny_pure hQ))
def Itl (K : PySem.W.Frag) (a : Addr) : It :=
  ⟨fun i H => ∃ xs x, SqL K H a xs ∧ xs[i]? = some x, fun i H x H' => H' = H ∧ ∀ xs, SqL K H a xs → xs[i]? = some x, fun i H => ∃ xs, SqL K H a xs ∧ xs.length ≤ i⟩
def Itr (lo : Int) (n : Nat) : It := ⟨fun i _ => i < n, fun i H x H' => H' = H ∧ x = .int (lo + i), fun i _ => n ≤ i⟩
theorem turn_list {P : Program} {w : World} {K : PySem.W.Frag} {tg : Expr} (a it : Addr) : Turn P w K tg (Itl K a) [it] it (fun i h => h.IsListIter it a i) where
  mem := by simp
  obj := fun i h st b hb => by
    have e : b = it := by simpa using hb
    subst e
    obtain ⟨o, e, c, d⟩ := st
    exact ⟨o, e, fun v z => by rw [d] at z; cases z⟩
  keep := fun i h h' st k => st.at fun o e => k it (by simp) o e
  item := by
    intro X hP hw hK hc i pins s σ H E I hf st hg
    subst hP hw hK
    obtain ⟨xs, x, hq, hx⟩ := hg
    obtain ⟨its, rv, p, hz⟩ := I.list hq
    obtain ⟨u, hu, ru⟩ := rv.get hx
    obtain ⟨f0, f1, f2, f3, f4, f5⟩ := hf it (by simp)
    refine wpAny_pyNext_list_item st p.isList (x := u) (by simpa using hu) fun h' st' sb => ?_
    have I1 : Inv X pins σ H { s with heap := h' } := I.turned (t' := s.toks) (fun b o hb e => (sb.2 b hb).trans e) f0 f1 f3 f4 f5
    obtain ⟨o, e, c, d⟩ := id st'
    exact ⟨u, rfl, go_of (s := { s with heap := h' }) e c d (by decide) ⟨x, H, I1, ru, ⟨rfl, fun ys hy => by rw [I.list_inj hy hq]; exact hx⟩, st', fun b hb => (hf b hb).1⟩⟩
  done := by
    intro X hP hw hK hc i pins s σ H E I hf st hg
    subst hP hw hK
    obtain ⟨xs, hq, hx⟩ := hg
    obtain ⟨its, rv, p, hz⟩ := I.list hq
    obtain ⟨f0, f1, f2, f3, f4, f5⟩ := hf it (by simp)
    have hl := rv.length
    exact wpAny_pyNext_list_end (I.ok.hd hc) st p.isList (by simp; omega) fun h' eb => ⟨rfl, I.turned (t' := s.toks) (fun b o hb e => eb b o hb e) f0 f1 f3 f4 f5⟩
  self := fun _ _ _ _ _ st h => wpAny_pyIter_listiter st h
theorem turn_range {P : Program} {w : World} {K : PySem.W.Frag} {tg : Expr} (it : Addr) (lo : Int) (n : Nat) : Turn P w K tg (Itr lo n) [it] it (fun i h => IsRangeIter h it (lo + (i : Nat) * 1) ((n : Int) - (i : Nat)) 1) where
  mem := by simp
  obj := fun i h st b hb => by
    have e : b = it := by simpa using hb
    subst e
    exact ⟨_, st, fun v z => by
      have z' : Data.fields _ = Data.cell v := z
      cases z'⟩
  keep := fun i h h' st k => k it (by simp) _ st
  item := by
    intro X hP hw hK hc i pins s σ H E I hf st hg
    subst hP hw hK
    obtain ⟨f0, f1, f2, f3, f4, f5⟩ := hf it (by simp)
    have W := Walks.range (prog := X.prog) (w := X.w) (I.ok.hd hc) it lo 1 n
    refine W.item i s _ _ hg st fun v h' tk hv st' kk => ?_
    obtain ⟨t, rfl⟩ := hv
    have I1 : Inv X pins σ H { s with heap := h', toks := tk } := I.turned (fun b o hb e => kk b o (by simpa using hb) e) f0 f1 f3 f4 f5
    refine ⟨_, rfl, go_of (s := { s with heap := h', toks := tk }) (n := "range_iterator") st' rfl rfl (by decide) ⟨.int (lo + i), H, I1, ⟨t, ?_⟩, ⟨rfl, rfl⟩, st', fun b hb => (hf b hb).1⟩⟩
    rw [Int.mul_one]
  done := by
    intro X hP hw hK hc i pins s σ H E I hf st hg
    subst hP hw hK
    obtain ⟨f0, f1, f2, f3, f4, f5⟩ := hf it (by simp)
    exact wpAny_pyNext_range_end (I.ok.hd hc) st (by have : n ≤ i := hg; omega) fun h' eb => ⟨rfl, I.turned (t' := s.toks) (fun b o hb e => eb b o hb e) f0 f1 f3 f4 f5⟩
  self := fun _ _ _ _ _ st h => wpAny_pyIter_rangeiter st h
end L2
namespace L2
open PySem PySem.Spec PyProof.Rows
section
variable {X : Cx} {tg : Expr}
def iList (K : PySem.W.Frag) (tl : TE) : TI := fun σ H R => tl σ H fun x H1 => ∃ a, x = .ref a ∧ (∃ xs, SqL K H1 a xs) ∧ R (Itl K a) H1
theorem pi_list {l : Expr} {tl : TE} (hl : PE X l tl) : PI X tg l (iList X.K tl) := by
  intro pins s σ H R I h
  refine thn (hl pins s σ H _ I h) fun v s1 ⟨x, H1, I1, r1, q1⟩ => ?_
  obtain ⟨a, e, ⟨xs, hq⟩, q⟩ := q1
  subst e
  cases r1
  obtain ⟨its, rv, p, hz⟩ := I1.list hq
  refine wpAny_pyIter_list p.isList ?_
  refine ⟨s1.heap.objs.size, [s1.heap.objs.size], _, _, H1, rfl, I1.kept (t' := s1.toks) fun b o e => Heap.get?_push_of_some _ e, turn_list a _, ⟨_, Heap.get?_push_size _ rfl, rfl, rfl⟩, fun b hb => ?_, q⟩
  have e : b = s1.heap.objs.size := by simpa using hb
  subst e
  exact I1.fpOk (Nat.le_refl _) (I1.hok.fresh (Nat.le_refl _))
theorem range_it {pins : List (Addr × Obj)} {σ : St} {H : Hp} {s : Shared} {R : It → Hp → Prop} {E : Value → Shared → Prop} {lo hi : Int} {t u v : Tok} {tk : Nat} (I : Inv X pins σ H s) (h1 : -(2 ^ 62) ≤ lo) (h2 : lo < 2 ^ 62) (h3 : -(2 ^ 62) ≤ hi) (h4 : hi < 2 ^ 62)
    (q : R (Itr lo (hi - lo).toNat) H) : wpAny (model X.prog X.w) X.A (pyIter (.ref s.heap.objs.size)) (PIE X pins σ tg R) E { s with heap := s.heap.push { cls := .type "range", data := .fields #[.int lo t, .int hi u, .int 1 v] }, toks := tk } := by
  refine wpAny_pyIter_range (IsRange.new ..) (small_one h1 h2 h3 h4) ?_
  have I1 : Inv X pins σ H { s with heap := s.heap.push { cls := .type "range", data := .fields #[.int lo t, .int hi u, .int 1 v] }, toks := tk } := I.kept fun b o e => Heap.get?_push_of_some _ e
  refine ⟨(s.heap.push { cls := .type "range", data := .fields #[.int lo t, .int hi u, .int 1 v] }).objs.size, [(s.heap.push { cls := .type "range", data := .fields #[.int lo t, .int hi u, .int 1 v] }).objs.size], _, _, H, rfl,
    I1.kept (t' := tk) fun b o e => Heap.get?_push_of_some _ e, turn_range _ lo (hi - lo).toNat, ?_, fun b hb => ?_, q⟩
  · have e1 : lo + ((0 : Nat) : Int) * 1 = lo := by simp
    have e2 : (((hi - lo).toNat : Nat) : Int) - ((0 : Nat) : Int) = Builtin.Range.rangeSize lo hi 1 := by rw [rangeSize_one]; split <;> omega
    show IsRangeIter _ _ (lo + ((0 : Nat) : Int) * 1) ((((hi - lo).toNat : Nat) : Int) - ((0 : Nat) : Int)) 1
    rw [e1, e2]
    exact Heap.get?_push_size _ rfl
  · have e : b = (s.heap.push { cls := .type "range", data := .fields #[.int lo t, .int hi u, .int 1 v] }).objs.size := by simpa using hb
    subst e
    exact I1.fpOk (Nat.le_refl _) (I1.hok.fresh (Nat.le_refl _))
def iRng1 (ta : TA) : TI := fun σ H R => ta σ H fun vs H1 => ∃ j : Int, vs = [.int j] ∧ -(2 ^ 62) ≤ j ∧ j < 2 ^ 62 ∧ R (Itr 0 j.toNat) H1
def iRng2 (ta : TA) : TI := fun σ H R => ta σ H fun vs H1 => ∃ i j : Int, vs = [.int i, .int j] ∧ (-(2 ^ 62) ≤ i ∧ i < 2 ^ 62 ∧ -(2 ^ 62) ≤ j ∧ j < 2 ^ 62) ∧ R (Itr i (j - i).toNat) H1
theorem pi_range1 {a : Expr} {ta : TA} {p pos : Pos} (hg : Gl X "range") (hm : X.mg "range" = none) (ha : PA X [a] ta) (hs : starEach [a] X.env = [(false, eval a X.env)] := by rfl) : PI X tg (.Call (.Name "range" p) [a] [] pos) (iRng1 ta) := by
  intro pins s σ H R I h
  refine Call_ (ld_blt I hg hm boot_range (PyProof.Rows.callWith_type1 (thn (ha pos pins s σ H _ I h) fun us s1 ⟨vs, H1, I1, r1, q1⟩ => ?_) hs rfl))
  obtain ⟨j, e, q1, q2, q⟩ := q1
  subst e
  cases r1 with
  | cons r rr =>
    cases rr
    obtain ⟨t, rfl⟩ := r
    exact call_range_1 (range_it I1 (by omega) (by omega) q1 q2 (by simpa using q))
theorem pi_range2 {a b : Expr} {ta : TA} {p pos : Pos} (hg : Gl X "range") (hm : X.mg "range" = none) (ha : PA X [a, b] ta) (hs : starEach [a, b] X.env = [(false, eval a X.env), (false, eval b X.env)] := by rfl) (hs2 : starEach [b] X.env = [(false, eval b X.env)] := by rfl) :
    PI X tg (.Call (.Name "range" p) [a, b] [] pos) (iRng2 ta) := by
  intro pins s σ H R I h
  refine Call_ (ld_blt I hg hm boot_range (PyProof.Rows.callWith_type1 (thn (ha pos pins s σ H _ I h) fun us s1 ⟨vs, H1, I1, r1, q1⟩ => ?_) (by rw [hs, hs2]) (by rw [hs2]; rfl)))
  obtain ⟨i, j, e, ⟨q1, q2, q3, q4⟩, q⟩ := q1
  subst e
  cases r1 with
  | cons r rr =>
    cases rr with
    | cons r' rr =>
      cases rr
      obtain ⟨t, rfl⟩ := r
      obtain ⟨t', rfl⟩ := r'
      exact call_range_2 (range_it I1 q1 q2 q3 q4 q)
def tFor (wi : TI) (g : TG) (tb : TS) : TS := fun D σ H => wi σ H fun J H1 => ∃ W : Nat → Nat → St → Hp → Prop, (∃ m, W 0 m σ H1) ∧ ∀ i m σ H, W i m σ H →
  (J.stop i H ∧ D.nx σ H) ∨ (J.go i H ∧ ∃ N : St → Hp → Prop, (∀ σ' H', N σ' H' → ∃ m', m' < m ∧ W (i + 1) m' σ' H') ∧ ∀ x H', J.yld i H x H' → g x σ H' fun σ2 H2 => tb { D with nx := N, ct := N, bk := D.nx } σ2 H2)
def pinsAt (fp : List Addr) (h : Heap) : List (Addr × Obj) := fp.filterMap fun b => (h.get? b).map fun o => (b, o)
theorem mem_pinsAt {fp : List Addr} {h : Heap} {b : Addr} {o : Obj} (hb : b ∈ fp) (e : h.get? b = some o) : (b, o) ∈ pinsAt fp h := List.mem_filterMap.mpr ⟨b, hb, by rw [e]; rfl⟩
theorem of_pinsAt {fp : List Addr} {h : Heap} {p : Addr × Obj} (hp : p ∈ pinsAt fp h) : p.1 ∈ fp ∧ h.get? p.1 = some p.2 := by
  obtain ⟨b, hb, e⟩ := List.mem_filterMap.mp hp
  cases q : h.get? b with
  | none => rw [q] at e; cases e
  | some o =>
    rw [q] at e
    have e' : (b, o) = p := Option.some.inj e
    subst e'
    exact ⟨hb, q⟩
theorem Inv.pinned {pins : List (Addr × Obj)} {σ : St} {H : Hp} {s : Shared} {fp : List Addr} (I : Inv X pins σ H s) (hf : ∀ b ∈ fp, FpOk X pins H b) (ho : ∀ b ∈ fp, ∃ o, s.heap.get? b = some o ∧ ∀ v, o.data ≠ .cell v) : Inv X (pins ++ pinsAt fp s.heap) σ H s :=
  I.pins_of fun p hp => (List.mem_append.mp hp).elim (fun z => I.pin p (List.mem_append_right _ z)) fun z => by
    obtain ⟨hb, e⟩ := of_pinsAt z
    obtain ⟨f0, f1, f2, _⟩ := hf p.1 hb
    obtain ⟨o, e', d⟩ := ho p.1 hb
    rw [e] at e'; cases e'
    exact ⟨e, f0, f1, f2, d⟩
theorem Inv.unpinned {pins pl : List (Addr × Obj)} {σ : St} {H : Hp} {s : Shared} (I : Inv X (pins ++ pl) σ H s) : Inv X pins σ H s := I.pins_of fun p hp => I.pin p (List.mem_append_right _ (List.mem_append_left _ hp))
theorem ps_for {iter : Expr} {body : List Stmt} {wi : TI} {g : TG} {tb : TS} {pos : Pos} (hp : PassesOwn (model X.prog X.w) X.A X.env X.xe) (hc : X.calm = true) (hi : PI X tg iter wi) (hg : PG X tg g) (hb : PSs X body tb)
    (hs : ∀ x, foldedSetIterable iter X.env x = pure x := by intro _; rfl) : PS X (.For tg iter body [] pos) (tFor wi g tb) := by
  intro pins s σ H D I h
  refine wpAny_For (thn (hi pins s σ H _ I h) fun v s1 h1 => thn h1 fun itv s2 h2 => ?_) hs
  obtain ⟨it, fp, tn, J, H2, e, I2, T, st2, f2, W, ⟨m0, w0⟩, turn⟩ := h2
  subst e
  have stat : ∀ {H' : Hp}, (∀ b ∈ fp, H' b = none) → ∀ b ∈ fp, FpOk X pins H' b := fun hn b hb => ⟨hn b hb, (f2 b hb).2⟩
  refine codeAny_forLoop_any (fun n s' => ∃ i σ' H', Inv X pins σ' H' s' ∧ tn i s'.heap ∧ (∀ b ∈ fp, H' b = none) ∧ W i n σ' H') ?_ m0 ⟨0, σ, H2, I2, st2, fun b hb => (f2 b hb).1, w0⟩
  rintro n s3 ⟨i, σ3, H3, I3, st3, fr3, w3⟩
  rcases turn i n σ3 H3 w3 with ⟨stop, qn⟩ | ⟨go, N, hN, step⟩
  · refine wpAny_passesOwn hp (thn (T.done X rfl rfl rfl hc i pins s3 σ3 H3 X.xe I3 (stat fr3) st3 stop) fun r s4 ⟨hr, I4⟩ => ?_)
    subst hr
    exact wpAny_execs_nil ⟨σ3, H3, I4, qn⟩
  · refine wpAny_passesOwn hp (thn (T.item X rfl rfl rfl hc i pins s3 σ3 H3 X.xe I3 (stat fr3) st3 go) fun r s4 ⟨u, hr, h4⟩ => ?_)
    subst hr
    refine wpAny_passesOwn hp (thn h4 fun _ s5 ⟨x, H5, I5, r5, y5, st5, fr5⟩ => ?_)
    have I5' := I5.pinned (stat fr5) (T.obj _ _ st5)
    refine wpAny_passesOwn hp (thn (hg _ s5 σ3 H5 x u _ I5' r5 (step x H5 y5)) fun _ s6 ⟨σ6, H6, I6, q6⟩ => ?_)
    refine wpAny_passesOwn hp (thn (hb _ s6 σ6 H6 _ I6 q6) fun f s7 q7 => ?_)
    have again : ∀ {σ7 : St} {H7 : Hp}, Inv X (pins ++ pinsAt fp s5.heap) σ7 H7 s7 → N σ7 H7 → ∃ m, m < n ∧ ∃ i σ' H', Inv X pins σ' H' s7 ∧ tn i s7.heap ∧ (∀ b ∈ fp, H' b = none) ∧ W i m σ' H' := fun {σ7 H7} I7 n7 => by
      obtain ⟨m', hm, w7⟩ := hN σ7 H7 n7
      refine ⟨m', hm, i + 1, σ7, H7, I7.unpinned, T.keep _ _ _ st5 fun b hb o e => (I7.pin (b, o) (List.mem_append_right _ (List.mem_append_right _ (mem_pinsAt hb e)))).1, fun b hb => ?_, w7⟩
      obtain ⟨o, e, d⟩ := T.obj _ _ st5 b hb
      exact (I7.pin (b, o) (List.mem_append_right _ (List.mem_append_right _ (mem_pinsAt hb e)))).2.1
    cases f with
    | next => obtain ⟨σ7, H7, I7, n7⟩ := q7; exact again I7 n7
    | cont => obtain ⟨σ7, H7, I7, n7⟩ := q7; exact again I7 n7
    | brk => obtain ⟨σ7, H7, I7, q7⟩ := q7; exact ⟨σ7, H7, I7.unpinned, q7⟩
    | ret v => obtain ⟨x7, σ7, H7, I7, r7, q7⟩ := q7; exact ⟨x7, σ7, H7, I7.unpinned, r7, q7⟩
end
end L2
namespace L2
open PySem PySem.Spec PyProof.Rows
abbrev R2 := V → V → Hp → VK → Prop
def OpR (X : Cx) (f : Value → Value → Sem Value) (r : R2) : Prop :=
  ∀ (pins : List (Addr × Obj)) (s : Shared) (σ : St) (H : Hp) (x y : V) (v u : Value) (Q : VK), Inv X pins σ H s → RelV x v → RelV y u → r x y H Q →
    wpAny (model X.prog X.w) X.A (f v u) (EP X pins σ Q) X.xe s
def UnR (X : Cx) (f : Value → Sem Value) (r : V → Hp → VK → Prop) : Prop :=
  ∀ (pins : List (Addr × Obj)) (s : Shared) (σ : St) (H : Hp) (x : V) (v : Value) (Q : VK), Inv X pins σ H s → RelV x v → r x H Q →
    wpAny (model X.prog X.w) X.A (f v) (EP X pins σ Q) X.xe s
def CallR (X : Cx) (f : Value) (r : List V → Hp → VK → Prop) : Prop :=
  ∀ (pins : List (Addr × Obj)) (s : Shared) (σ : St) (H : Hp) (xs : List V) (us : List Value) (Q : VK), Inv X pins σ H s → Vals xs us → r xs H Q →
    wpAny (model X.prog X.w) X.A (call f us) (EP X pins σ Q) X.xe s
def tOp (r : R2) (ta tb : TE) : TE := fun σ H Q => ta σ H fun x H1 => tb σ H1 fun y H2 => r x y H2 Q
def tUn (r : V → Hp → VK → Prop) (ta : TE) : TE := fun σ H Q => ta σ H fun x H1 => r x H1 Q
def rI (C : Int → Int → Prop) (g : Int → Int → V) : R2 := fun x y H Q => ∃ i j, x = .int i ∧ y = .int j ∧ C i j ∧ Q (g i j) H
def rI0 (g : Int → Int → V) : R2 := fun x y H Q => ∃ i j, x = .int i ∧ y = .int j ∧ Q (g i j) H
def rU (g : Int → V) : V → Hp → VK → Prop := fun x H Q => ∃ i, x = .int i ∧ Q (g i) H
section
variable {X : Cx} {a b c : Expr} {ta tb tc : TE} {pos : Pos}
theorem binT (ha : PE X a ta) (hb : PE X b tb) {pins : List (Addr × Obj)} {s : Shared} {σ : St} {H : Hp} {R : V → V → Hp → Prop} (I : Inv X pins σ H s)
    (h : ta σ H fun x H1 => tb σ H1 fun y H2 => R x y H2) {Q : Value → Shared → Prop} {f : Value → Value → Sem Value}
    (hf : ∀ v u s2 x y H2, Inv X pins σ H2 s2 → RelV x v → RelV y u → R x y H2 → wpAny (model X.prog X.w) X.A (f v u) Q X.xe s2) :
    wpAny (model X.prog X.w) X.A (eval a X.env) (fun v s₁ => wpAny (model X.prog X.w) X.A (eval b X.env) (fun u s₂ => wpAny (model X.prog X.w) X.A (f v u) Q X.xe s₂) X.xe s₁) X.xe s := by
  refine thn (ha pins s σ H _ I h) fun v s1 ⟨x, H1, I1, r1, q1⟩ => ?_
  refine thn (hb pins s1 σ H1 _ I1 q1) fun u s2 ⟨y, H2, I2, r2, q2⟩ => ?_
  exact hf v u s2 x y H2 I2 r1 r2 q2
theorem pe_op {op : Operator} {r : R2} (ho : OpR X (binaryOp op) r) (ha : PE X a ta) (hb : PE X b tb) : PE X (.BinOp a op b pos) (tOp r ta tb) := by
  intro pins s σ H Q I h
  exact wpAny_BinOp (binT ha hb I h fun v u s2 x y H2 I2 rx ry q => ho pins s2 σ H2 x y v u Q I2 rx ry q)
theorem pe_un {op : UnaryOp} {r : V → Hp → VK → Prop} (ho : UnR X (unaryOp op) r) (ha : PE X a ta) : PE X (.UnaryOp op a pos) (tUn r ta) := by
  intro pins s σ H Q I h
  exact UnaryOp_ (thn (ha pins s σ H _ I h) fun v s1 ⟨x, H1, I1, r1, q1⟩ => ho pins s1 σ H1 x v Q I1 r1 q1)
theorem opI {f : Value → Value → Sem Value} {C : Int → Int → Prop} {g : Int → Int → Int}
    (rule : ∀ (i j : Int) (t u : Tok) (s : Shared) (Q : Value → Shared → Prop) (E : Value → Shared → Prop), C i j → Q (.int (g i j) s.toks) { s with toks := s.toks + 1 } → wpAny (model X.prog X.w) X.A (f (.int i t) (.int j u)) Q E s) :
    OpR X f (rI C fun i j => .int (g i j)) := by
  intro pins s σ H x y v u Q I rx ry h
  obtain ⟨i, j, rfl, rfl, hc, q⟩ := h
  obtain ⟨t, rfl⟩ := rx
  obtain ⟨t', rfl⟩ := ry
  exact rule i j t t' s _ _ hc ⟨.int (g i j), H, I.tok _, ⟨_, rfl⟩, q⟩
theorem opI0 {f : Value → Value → Sem Value} {g : Int → Int → Int}
    (rule : ∀ (i j : Int) (t u : Tok) (s : Shared) (Q : Value → Shared → Prop) (E : Value → Shared → Prop), Q (.int (g i j) s.toks) { s with toks := s.toks + 1 } → wpAny (model X.prog X.w) X.A (f (.int i t) (.int j u)) Q E s) :
    OpR X f (rI0 fun i j => .int (g i j)) := by
  intro pins s σ H x y v u Q I rx ry h
  obtain ⟨i, j, rfl, rfl, q⟩ := h
  obtain ⟨t, rfl⟩ := rx
  obtain ⟨t', rfl⟩ := ry
  exact rule i j t t' s _ _ ⟨.int (g i j), H, I.tok _, ⟨_, rfl⟩, q⟩
def CDiv (i j : Int) : Prop := 0 < j ∧ j < 1073741824
def CPow (i j : Int) : Prop := 0 ≤ j ∧ j ≤ 1000000 ∧ i.natAbs < 2 ^ 64
def CMul (i j : Int) : Prop := (-(2 ^ 64) < i ∧ i < 2 ^ 64) ∨ (-(2 ^ 64) < j ∧ j < 2 ^ 64)
theorem CMul.ok {i j : Int} (h : CMul i j) : IntMulOk i j := by
  rcases h with ⟨h1, h2⟩ | ⟨h1, h2⟩
  · exact .of_left (intBits_le_64 h1 h2)
  · exact .of_right (intBits_le_64 h1 h2)
theorem two_pow_nn (k : Nat) : (0 : Int) ≤ 2 ^ k := by
  rw [two_pow_cast]
  exact Int.natCast_nonneg _
theorem op_add : OpR X (binaryOp .Add) (rI0 fun i j => .int (i + j)) := opI0 fun _ _ _ _ _ _ _ q => add_int q
theorem op_sub : OpR X (binaryOp .Sub) (rI0 fun i j => .int (i - j)) := opI0 fun _ _ _ _ _ _ _ q => sub_int q
theorem op_mul : OpR X (binaryOp .Mult) (rI CMul fun i j => .int (i * j)) := opI fun _ _ _ _ _ _ _ hc q => mul_int q hc.ok
theorem op_fdiv : OpR X (binaryOp .FloorDiv) (rI CDiv fun i j => .int (i / j)) := opI fun i j _ _ _ _ _ hc q => by
  have h1 : (0 : Int) < j := hc.1
  have h2 : j < 1073741824 := hc.2
  exact floordiv_int (by omega) (by rw [Int.fdiv_eq_ediv_of_nonneg i (by omega)]; exact q) (.inl (PyProof.noPylong_small (by omega)))
theorem op_shl : OpR X (binaryOp .LShift) (rI CPow fun i j => .int (i * 2 ^ j.toNat)) := opI fun _ _ _ _ _ _ _ hc q => lshift_int_small hc.1 hc.2.1 hc.2.2 q
theorem op_shr : OpR X (binaryOp .RShift) (rI (fun _ j => 0 ≤ j) fun i j => .int (i / 2 ^ j.toNat)) := opI fun i j _ _ _ _ _ hc q =>
  rshift_int hc (by rw [Int.fdiv_eq_ediv_of_nonneg i (two_pow_nn _)]; exact q)
theorem op_and : OpR X (binaryOp .BitAnd) (rI0 fun i j => .int (Builtin.bitAnd i j)) := opI0 fun _ _ _ _ _ _ _ q => and_int q
theorem unI {f : Value → Sem Value} {g : Int → Int}
    (rule : ∀ (i : Int) (t : Tok) (s : Shared) (Q : Value → Shared → Prop) (E : Value → Shared → Prop), Q (.int (g i) s.toks) { s with toks := s.toks + 1 } → wpAny (model X.prog X.w) X.A (f (.int i t)) Q E s) :
    UnR X f (rU fun i => .int (g i)) := by
  intro pins s σ H x v Q I rx h
  obtain ⟨i, rfl, q⟩ := h
  obtain ⟨t, rfl⟩ := rx
  exact rule i t s _ _ ⟨.int (g i), H, I.tok _, ⟨_, rfl⟩, q⟩
theorem un_neg : UnR X (unaryOp .USub) (rU fun i => .int (-i)) := unI fun _ _ _ _ _ q => neg_int q
end
section
variable {X : Cx} {a b c : Expr} {ta tb tc : TE} {pos : Pos}
def tTest (t : TE) : TT := fun σ H Q => t σ H fun x H' => ∃ k, x = .bl k ∧ Q k H'
theorem pt_cmpR {op : CmpOp} {r : R2} (ho : OpR X (compareOp op) r) (ha : PE X a ta) (hb : PE X b tb) (hm : behindInMarks op b = false) : PT X (.Compare a [op] [b] pos) (tTest (tOp r ta tb)) := by
  intro pins s σ H Q I h
  refine wpAny_isTrue_Compare1 (thn (ha pins s σ H _ I h) fun v s1 ⟨x, H1, I1, r1, q1⟩ => thn (hb pins s1 σ H1 _ I1 q1) fun u s2 ⟨y, H2, I2, r2, q2⟩ =>
    thn (ho pins s2 σ H2 x y v u _ I2 r1 r2 q2) fun c s3 ⟨z, H3, I3, r3, k, e, q3⟩ => ?_) hm
  subst e
  cases r3
  exact wpAny_truthy_bool ⟨H3, I3, q3⟩
theorem line63 : (sizeLine : Nat) < 2 ^ 63 := by rw [sizeLine_eq]; decide
theorem vals1 {x : V} {us : List Value} (r : Vals [x] us) : ∃ u, us = [u] ∧ RelV x u := by
  cases r with
  | cons r1 r2 => cases r2; exact ⟨_, rfl, r1⟩
theorem vals2 {x y : V} {us : List Value} (r : Vals [x, y] us) : ∃ u w', us = [u, w'] ∧ RelV x u ∧ RelV y w' := by
  cases r with
  | cons r1 r2 =>
    cases r2 with
    | cons r3 r4 => cases r4; exact ⟨_, _, rfl, r1, r3⟩
theorem call_max2 (hc : X.calm = true) : CallR X (.builtin "max") (fun xs H Q => ∃ i j, xs = [.int i, .int j] ∧ Q (.int (if j > i then j else i)) H) := by
  intro pins s σ H xs us Q I r h
  obtain ⟨i, j, rfl, q⟩ := h
  obtain ⟨u, w', rfl, ⟨t, rfl⟩, ⟨t', rfl⟩⟩ := vals2 r
  refine max_two_ints (I.ok.hd hc) fun h' tk k => ⟨_, H, I.kept k, ?_, q⟩
  by_cases hj : j > i
  · rw [if_pos hj, if_pos hj]; exact ⟨_, rfl⟩
  · rw [if_neg hj, if_neg hj]; exact ⟨_, rfl⟩
theorem call_min2 (hc : X.calm = true) : CallR X (.builtin "min") (fun xs H Q => ∃ i j, xs = [.int i, .int j] ∧ Q (.int (if j < i then j else i)) H) := by
  intro pins s σ H xs us Q I r h
  obtain ⟨i, j, rfl, q⟩ := h
  obtain ⟨u, w', rfl, ⟨t, rfl⟩, ⟨t', rfl⟩⟩ := vals2 r
  refine min_two_ints (I.ok.hd hc) fun h' tk k => ⟨_, H, I.kept k, ?_, q⟩
  by_cases hj : j < i
  · rw [if_pos hj, if_pos hj]; exact ⟨_, rfl⟩
  · rw [if_neg hj, if_neg hj]; exact ⟨_, rfl⟩
end
end L2
namespace L2
open PySem PySem.Spec PyProof.Rows
structure ObjM (h : Heap) (x dx C : Addr) (mA : Str → Option Value) : Prop where
  obj : h.get? x = some (PySem.W.instObj C dx)
  ns : h.Ns1 dx mA
  ne : dx ≠ x
theorem lookIn_ns {h : Heap} {dx : Addr} {mA : Str → Option Value} (n : h.Ns1 dx mA) : ∃ od, h.get? dx = some od ∧ ∀ name, PySem.W.lookIn name od = some (mA name) := by
  obtain ⟨o, es, ep, ho, hd, hk, _, hm⟩ := n
  refine ⟨o, ho, fun name => ?_⟩
  have e := hm name
  unfold nsFind findBy at e
  rw [← Array.find?_toList] at e
  unfold PySem.W.lookIn
  rw [hd]
  dsimp only
  split
  · rename_i y q
    rw [q] at e
    exact congrArg some e
  · rename_i q
    rw [q] at e
    have a : es.toList.any (·.refKey) = false := by
      rw [List.any_eq_false]
      intro y hy
      obtain ⟨z, t, hkey⟩ := hk y (Array.mem_toList_iff.mp hy)
      simp [DictEntry.refKey, hkey]
    have a' : ¬ es.toList.any (·.refKey) = true := by rw [a]; exact Bool.false_ne_true
    rw [if_neg a']
    exact congrArg some e
theorem ObjM.look {h : Heap} {x dx C : Addr} {mA : Str → Option Value} (I : ObjM h x dx C mA) : ∃ od, PySem.W.InstAt h x (PySem.W.instObj C dx) C (some od) ∧ ∀ name, PySem.W.lookIn name od = some (mA name) :=
  let ⟨od, ho, hl⟩ := lookIn_ns I.ns
  ⟨od, ⟨I.obj, rfl, rfl, ho⟩, hl⟩
section
variable {prog : Program} {w : World} {A : Around} {E : Value → Shared → Prop} {s : Shared} {K : PySem.W.Frag} {x dx C f : Addr} {mA : Str → Option Value} {name : Str} {v : Value}
theorem get_map {expr : Bool} {Q : Value → Shared → Prop} (X : K.In s.heap) (I : ObjM s.heap x dx C mA) (hg : PySem.W.plainGet K C name = true) (hh : PySem.W.hasDictIn K C = true)
    (ha : PySem.W.findIn K (.ref C) name = some none) (hv : mA name = some v) (hv' : PySem.W.handedIn v = true) (h : Q v { s with toks := s.toks + 1 }) :
    wpAny (model prog w) A (getAttr (.ref x) name expr) Q E s := by
  obtain ⟨od, J, hl⟩ := I.look
  exact PySem.W.get_value X J (PySem.W.plainGet_of hg).1 (PySem.W.findObj_own hh ha rfl (by rw [hl, hv])) hv' h
theorem get_meth {pl : Sem Bool} {Q : Value × List Value → Shared → Prop} (X : K.In s.heap) (I : ObjM s.heap x dx C mA) (hg : PySem.W.plainGet K C name = true)
    (hf : PySem.W.findIn K (.ref C) name = some (some (.ref f))) (ht : PySem.W.isFn K (.ref f) = true) (hv : mA name = none) (h : Q (.ref f, [.ref x]) s) :
    wpAny (model prog w) A (getMethod (.ref x) name pl) Q E s := by
  obtain ⟨od, J, hl⟩ := I.look
  exact PySem.W.method_fn X J (PySem.W.plainGet_of hg).1 (PySem.W.plainGet_of hg).2 hf (beq_iff_eq.mp ht) (by show (PySem.W.lookIn name od).map (·.isSome) = some false; rw [hl, hv]; rfl) h
theorem set_map {ns : List Str} {Q : Unit → Shared → Prop} (X : K.In s.heap) (I : ObjM s.heap x dx C mA)
    (hs : PySem.W.findIn K (.ref C) "__setattr__" = some (some (.builtin "object.__setattr__"))) (hp : PySem.W.plainOver K C = true) (ht : PySem.W.takerIn K C name = some none) (hh : PySem.W.hasDictIn K C = true)
    (hw : PySem.Within mA ns) (hsz : ns.length ≤ sizeLine)
    (h : ∀ h', ObjM h' x dx C (fun y => if y = name then some v else mA y) → Heap.SameBut dx s.heap h' → Q () { s with heap := h', toks := s.toks + 2 }) :
    wpAny (model prog w) A (setAttr (.ref x) name v) Q E s := by
  obtain ⟨od, J, hl⟩ := I.look
  refine PySem.W.set_plain X J hs (PySem.W.osa_open (s := { s with toks := s.toks + 1 }) (r := none) X J hp ht fun b => ?_)
  obtain ⟨cd, hc, hd'⟩ := PySem.W.any_some hh
  have hx : s.heap.get? x = some ⟨.ref C, some dx, .plain, #[]⟩ := I.obj
  refine wpAny_bind (wpAny_pure (wpAny_bind (wpAny_bind (wpAny_loadPart hx (wpAny_bind (PySem.W.Looks.here (s := { s with toks := s.toks + 1 }) (PySem.W.looks_clsIn X hc) ?_))))))
  rw [hd']
  refine wpAny_pure (a := some dx) (wpAny_bind (wpAny_pure (wpAny_bind ?_)))
  refine wpAny_nsSet1 (s := { s with toks := s.toks + 1 }) I.ns fun h' hn2 hs2 => ?_
  obtain ⟨oD, esD, epD, hoD, hdD, hcD⟩ := hn2.count (PySem.Within.cons name v hw)
  refine wpAny_bind (wpAny_lookBehind hoD (by rw [hdD]; exact pastItsLine_dict (Nat.le_trans hcD (by rw [List.length_cons]; omega))) ?_)
  exact wpAny_pure (h _ ⟨(hs2.2 _ (Ne.symm I.ne)).trans I.obj, hn2, I.ne⟩ hs2)
theorem make_map {R : Result → Shared → Prop} {vs : List Value} {kw : List (Str × Value)} (X : K.In s.heap) (hm : PySem.W.makesIn K C = true)
    (hi : PySem.W.findIn K (.ref C) "__init__" = some (some (.ref f))) (hf : PySem.W.typeIn K (.ref f) = some (.type "function"))
    (h : codeAny (model prog w) (A.under (.builtin "type.__call__" ⟨.ref C :: vs, kw⟩)) (.call (.ref f) ⟨.ref (s.heap.objs.size + 1) :: vs, kw⟩) (PySem.W.InitBack (s.heap.objs.size + 1) R)
      { s with heap := (s.heap.push PySem.W.emptyDict).push (PySem.W.instObj C s.heap.objs.size) }) :
    codeAny (model prog w) A (.call (.ref C) ⟨vs, kw⟩) R s := by
  obtain ⟨hh, g, d, t, os⟩ := s
  exact PySem.W.make_core (PySem.W.makes_of X hm) (PySem.W.looks_findIn X hi) (fun self => PySem.W.bind_fn X self hf) (.inl rfl) h
end
def putF (f : Str) (v : V) : List (Str × V) → List (Str × V)
  | [] => [(f, v)]
  | (g, x) :: r => if g = f then (g, v) :: r else (g, x) :: putF f v r
theorem lookup_putF (f g : Str) (v : V) : ∀ fs : List (Str × V), (putF f v fs).lookup g = if g = f then some v else fs.lookup g
  | [] => by
    show List.lookup g [(f, v)] = _
    by_cases h : g = f
    · have hb : (g == f) = true := beq_iff_eq.mpr h
      simp only [List.lookup, hb, if_pos h]
    · have hb : (g == f) = false := beq_eq_false_iff_ne.mpr h
      simp only [List.lookup, hb, if_neg h]
  | (k, x) :: r => by
    have ih := lookup_putF f g v r
    rw [show putF f v ((k, x) :: r) = (if k = f then (k, v) :: r else (k, x) :: putF f v r) from rfl]
    by_cases hk : k = f
    · rw [if_pos hk]
      by_cases h : g = k
      · have hb : (g == k) = true := beq_iff_eq.mpr h
        simp only [List.lookup, hb, if_pos (h.trans hk)]
      · have hb : (g == k) = false := beq_eq_false_iff_ne.mpr h
        simp only [List.lookup, hb, if_neg (fun e : g = f => h (e.trans hk.symm))]
    · rw [if_neg hk]
      by_cases h : g = k
      · have hb : (g == k) = true := beq_iff_eq.mpr h
        simp only [List.lookup, hb, if_neg (fun e : g = f => hk (h.symm.trans e))]
      · have hb : (g == k) = false := beq_eq_false_iff_ne.mpr h
        simp only [List.lookup, hb]
        exact ih
theorem keys_putF (f : Str) (v : V) : ∀ fs : List (Str × V), f ∈ (putF f v fs).map (·.1) ∧ ∀ g, g ∈ fs.map (·.1) → g ∈ (putF f v fs).map (·.1)
  | [] => ⟨by simp [putF], fun g h => by simp at h⟩
  | (k, x) :: r => by
    obtain ⟨i1, i2⟩ := keys_putF f v r
    rw [show putF f v ((k, x) :: r) = (if k = f then (k, v) :: r else (k, x) :: putF f v r) from rfl]
    by_cases hk : k = f
    · rw [if_pos hk]
      subst hk
      exact ⟨by simp, fun g h => by simpa using h⟩
    · rw [if_neg hk]
      refine ⟨?_, fun g h => ?_⟩
      · rw [List.map_cons]
        exact List.mem_cons_of_mem _ i1
      · rw [List.map_cons] at h ⊢
        rcases List.mem_cons.mp h with e | e
        · exact List.mem_cons.mpr (.inl e)
        · exact List.mem_cons_of_mem _ (i2 g e)
theorem length_putF (f : Str) (v : V) : ∀ fs : List (Str × V), (putF f v fs).length ≤ fs.length + 1
  | [] => by simp [putF]
  | (k, x) :: r => by
    have ih := length_putF f v r
    rw [show putF f v ((k, x) :: r) = (if k = f then (k, v) :: r else (k, x) :: putF f v r) from rfl]
    by_cases hk : k = f
    · rw [if_pos hk, List.length_cons, List.length_cons]; omega
    · rw [if_neg hk, List.length_cons, List.length_cons]; omega
theorem RelO.some_of {v : V} {o : Option Value} (r : RelO (some v) o) : ∃ u, o = some u ∧ RelV v u := by
  cases o with
  | none => exact (show False from r).elim
  | some u => exact ⟨u, rfl, r⟩
theorem RelO.none_of {o : Option Value} (r : RelO none o) : o = none := by
  cases o with
  | none => rfl
  | some u => exact (show False from r).elim
theorem handed_of {v : V} {u : Value} (r : RelV v u) : PySem.W.handedIn u = true := by
  cases v with
  | non => cases (show u = Value.none from r); rfl
  | bl b => cases (show u = Value.bool b from r); rfl
  | int i => obtain ⟨t, e⟩ := (show ∃ t, u = Value.int i t from r); cases e; rfl
  | str x => obtain ⟨t, e⟩ := (show ∃ t, u = Value.str x t from r); cases e; rfl
  | byt b => obtain ⟨t, e⟩ := (show ∃ t, u = Value.bytes b t from r); cases e; rfl
  | flt b => obtain ⟨t, e⟩ := (show ∃ t, u = Value.float b t from r); cases e; rfl
  | ref a => cases (show u = Value.ref a from r); rfl
  | ty n => cases (show u = Value.type n from r); rfl
section
variable {P : Program} {w : World} {H H' : Hp} {h h' : Heap} {a C dx : Addr} {fs fs' : List (Str × V)}
theorem ins_get (hok : HOk P w H h) (e : H a = some (.ins C dx fs)) : ∃ mA, ObjM h a dx C mA ∧ (∀ f, RelO (fs.lookup f) (mA f)) ∧ PySem.Within mA (fs.map (·.1)) ∧ fs.length ≤ 1000 ∧ H dx = some (.own a) := by
  obtain ⟨d, z, ne, ob, mA, n, r, q⟩ := (show ObjOk P w H h a (.ins C dx fs) from hok a _ e)
  exact ⟨mA, ⟨ob, n, ne⟩, r, q, z, d⟩
end
structure Cls (K : PySem.W.Frag) (C : Addr) : Prop where
  pg : PySem.W.plainGet K C Str.empty = true
  hd : PySem.W.hasDictIn K C = true
  po : PySem.W.plainOver K C = true
  sa : PySem.W.findIn K (.ref C) "__setattr__" = some (some (.builtin "object.__setattr__"))
theorem Cls.get {K : PySem.W.Frag} {C : Addr} (c : Cls K C) (f : Str) : PySem.W.plainGet K C f = true := c.pg
def NoAttr (K : PySem.W.Frag) (C : Addr) (f : Str) : Prop := PySem.W.findIn K (.ref C) f = some none
theorem NoAttr.taker {K : PySem.W.Frag} {C : Addr} {f : Str} (n : NoAttr K C f) : PySem.W.takerIn K C f = some none := by
  unfold PySem.W.takerIn
  rw [show PySem.W.findIn K (.ref C) f = some none from n]
  rfl
structure Meth (K : PySem.W.Frag) (C : Addr) (m : Str) (f : Addr) : Prop where
  at_ : PySem.W.findIn K (.ref C) m = some (some (.ref f))
  fn : PySem.W.isFn K (.ref f) = true
  kp : PySem.W.keepIn K (.ref f) = true
section
variable {X : Cx} {pins : List (Addr × Obj)} {σ : St} {H : Hp} {s : Shared} {a C dx : Addr} {fs : List (Str × V)} {f : Str} {v : V} {A : Around} {E : Value → Shared → Prop}
theorem getattr_ok {b : Bool} {Q : Value → Shared → Prop} (I : Inv X pins σ H s) (e : H a = some (.ins C dx fs)) (c : Cls X.K C) (n : NoAttr X.K C f) (l : fs.lookup f = some v)
    (h : ∀ u s', Inv X pins σ H s' → RelV v u → Q u s') : wpAny (model X.prog X.w) A (getAttr (.ref a) f b) Q E s := by
  obtain ⟨mA, O, r, _, _, _⟩ := ins_get I.hok e
  obtain ⟨u, hu, ru⟩ := RelO.some_of (v := v) (o := mA f) (by rw [← l]; exact r f)
  exact get_map I.kIn O (c.get f) c.hd n hu (handed_of ru) (h u _ (I.tok _) ru)
theorem getmeth_ok {m : Str} {g : Addr} {pl : Sem Bool} {Q : Value × List Value → Shared → Prop} (I : Inv X pins σ H s) (e : H a = some (.ins C dx fs)) (c : Cls X.K C) (k : Meth X.K C m g) (l : fs.lookup m = none)
    (h : Q (.ref g, [.ref a]) s) : wpAny (model X.prog X.w) A (getMethod (.ref a) m pl) Q E s := by
  obtain ⟨mA, O, r, _, _, _⟩ := ins_get I.hok e
  have hn : mA m = none := RelO.none_of (by rw [← l]; exact r m)
  exact get_meth I.kIn O (c.get m) k.at_ k.fn hn h
theorem setattr_ok {y : V} {u : Value} {Q : Unit → Shared → Prop} (I : Inv X pins σ H s) (e : H a = some (.ins C dx fs)) (c : Cls X.K C) (n : NoAttr X.K C f) (hl : fs.length < 1000) (ry : RelV y u)
    (h : ∀ s', Inv X pins σ (upd H a (.ins C dx (putF f y fs))) s' → Q () s') : wpAny (model X.prog X.w) A (setAttr (.ref a) f u) Q E s := by
  obtain ⟨mA, O, r, wi, _, ho⟩ := ins_get I.hok e
  have hz : (fs.map (·.1)).length ≤ sizeLine := by rw [List.length_map, sizeLine_eq]; omega
  refine set_map I.kIn O c.sa c.po n.taker c.hd wi hz fun h' O' sb => h _ ?_
  have hd : ∃ o, h'.get? dx = some o := let ⟨o, _, _, e', _⟩ := O'.ns; ⟨o, e'⟩
  refine I.write (x := a) (e := dx) (by rw [e]; exact True.intro) (.inr ho) (fun b q hb z => (sb.2 b hb).trans z) hd ?_
  refine ⟨by rw [upd_ne O.ne]; exact ho, ?_, O.ne, O'.obj, _, O'.ns, fun g => ?_, fun g hg => ?_⟩
  · have := length_putF f y fs; omega
  · show RelO ((putF f y fs).lookup g) (if g = f then some u else mA g)
    rw [lookup_putF]
    by_cases q : g = f
    · rw [if_pos q, if_pos q]; exact ry
    · rw [if_neg q, if_neg q]; exact r g
  · by_cases q : g = f
    · rw [q]; exact (keys_putF f y fs).1
    · refine (keys_putF f y fs).2 g (wi g fun z => hg ?_)
      show (if g = f then some u else mA g) = none
      rw [if_neg q]; exact z
theorem Inv.made (I : Inv X pins σ H s) : Inv X pins σ (upd (upd H s.heap.objs.size (.own (s.heap.objs.size + 1))) (s.heap.objs.size + 1) (.ins C s.heap.objs.size []))
    { s with heap := (s.heap.push PySem.W.emptyDict).push (PySem.W.instObj C s.heap.objs.size) } := by
  have e1 : (s.heap.push PySem.W.emptyDict).get? s.heap.objs.size = some PySem.W.emptyDict := Heap.get?_push_size s.heap rfl
  have e2 : ((s.heap.push PySem.W.emptyDict).push (PySem.W.instObj C s.heap.objs.size)).get? (s.heap.objs.size + 1) = some (PySem.W.instObj C s.heap.objs.size) := by
    have := Heap.get?_push_size (s.heap.push PySem.W.emptyDict) (o := PySem.W.instObj C s.heap.objs.size) rfl
    rwa [Heap.size_push] at this
  have e3 : (s.heap.push PySem.W.emptyDict).Ns s.heap.objs.size (fun _ => none) := ⟨PySem.W.emptyDict, #[], _, e1, rfl, (fun e he => absurd he (by simp)), fun _ => rfl⟩
  have I1 := I.laid (a := s.heap.objs.size) (o := .own (s.heap.objs.size + 1)) (h' := s.heap.push PySem.W.emptyDict) (t' := s.toks) (fun b u q => Heap.get?_push_of_some _ q) (Nat.le_refl _) ⟨_, e1⟩
  refine I1.laid (a := s.heap.objs.size + 1) (o := .ins C s.heap.objs.size []) (t' := s.toks) (fun b u q => Heap.get?_push_of_some _ q) (Nat.le_of_eq (Heap.size_push _ _)) ?_
  have ne : s.heap.objs.size ≠ s.heap.objs.size + 1 := Nat.ne_of_lt (Nat.lt_succ_self _)
  refine ⟨by rw [upd_ne ne, upd_same], Nat.zero_le _, ne, e2, fun _ => none, (Heap.Ns1.of_empty e3).at fun o q => Heap.get?_push_of_some _ q, fun _ => True.intro, fun y hy => absurd rfl hy⟩
theorem attr_of {prog : Program} {w : World} {env : Env} {e : Expr} {f : Str} {pos : Pos} {s : Shared} {Q : Value → Shared → Prop} (hb : attributeBase e f env (eval e env) = eval e env)
    (h : wpAny (model prog w) A (eval e env) (fun o s₁ => wpAny (model prog w) A (getAttr o f true) Q E s₁) E s) : wpAny (model prog w) A (eval (.Attribute e f pos) env) Q E s :=
  Attribute_any_ h (by rw [arm_eval_Attribute, hb])
end
def tFld (K : PySem.W.Frag) (ta : TE) (f : Str) : TE := fun σ H Q => ta σ H fun x H1 => ∃ a C dx fs v, x = .ref a ∧ H1 a = some (.ins C dx fs) ∧ Cls K C ∧ NoAttr K C f ∧ fs.lookup f = some v ∧ Q v H1
def sFld (K : PySem.W.Frag) (ta tv : TE) (f : Str) : TS := fun D σ H => tv σ H fun y H1 => ta σ H1 fun x H2 => ∃ a C dx fs, x = .ref a ∧ H2 a = some (.ins C dx fs) ∧ Cls K C ∧ NoAttr K C f ∧ fs.length < 1000 ∧
  D.nx σ (upd H2 a (.ins C dx (putF f y fs)))
def InOp (X : Cx) (op : Operator) (rd : V → V → Hp → VK → Prop) : Prop :=
  ∀ (pins : List (Addr × Obj)) (s : Shared) (σ : St) (H : Hp) (x y : V) (u v : Value) (Q : VK), Inv X pins σ H s → RelV x u → RelV y v → rd x y H Q → wpAny (model X.prog X.w) X.A (inplaceOp op u v) (EP X pins σ Q) X.xe s
def sFldAug (K : PySem.W.Frag) (ta tv : TE) (rd : V → V → Hp → VK → Prop) (f : Str) : TS := fun D σ H => ta σ H fun x H1 => ∃ a C dx fs v, x = .ref a ∧ H1 a = some (.ins C dx fs) ∧ Cls K C ∧ NoAttr K C f ∧ fs.lookup f = some v ∧
  tv σ H1 fun y H2 => rd v y H2 fun z H3 => ∃ dx' fs', H3 a = some (.ins C dx' fs') ∧ fs'.length < 1000 ∧ D.nx σ (upd H3 a (.ins C dx' (putF f z fs')))
section
variable {X : Cx} {o e value : Expr} {f : Str} {pos pos' tpos : Pos} {ta tv : TE}
theorem pe_fld (he : PE X e ta) (hb : attributeBase e f X.env (eval e X.env) = eval e X.env) : PE X (.Attribute e f pos) (tFld X.K ta f) := by
  intro pins s σ H Q I h
  refine attr_of hb (thn (he pins s σ H _ I h) fun u s1 ⟨x, H1, I1, rx, a, C, dx, fs, v, ex, ea, c, n, l, q⟩ => ?_)
  subst ex
  obtain rfl : u = Value.ref a := rx
  exact getattr_ok I1 ea c n l fun u' s2 I2 ru => ⟨v, H1, I2, ru, q⟩
theorem ps_fld (ha : PE X o ta) (hv : PE X value tv) (hs : swapsWith value (some (.Attribute o f pos')) pos.line X.env = pure false) : PS X (.Assign [.Attribute o f pos'] value pos) (sFld X.K ta tv f) := by
  intro pins s σ H D I h
  refine plainObj_wpAny_Assign_Attribute (thn (hv pins s σ H _ I h) fun u s1 ⟨y, H1, I1, ry, q⟩ => thn (ha pins s1 σ H1 _ I1 q) fun ov s2 ⟨x, H2, I2, rx, a, C, dx, fs, ex, ea, c, n, l, q2⟩ => ?_) hs
  subst ex
  obtain rfl : ov = Value.ref a := rx
  exact setattr_ok I2 ea c n l ry fun s3 I3 => ⟨σ, _, I3, q2⟩
theorem ps_fldaug {op : Operator} {rd : V → V → Hp → VK → Prop} (ha : PE X o ta) (hv : PE X value tv) (hop : InOp X op rd) : PS X (.AugAssign (.Attribute o f tpos) op value pos) (sFldAug X.K ta tv rd f) := by
  intro pins s σ H D I h
  refine wpAny_AugAssign_AttributeAny (thn (ha pins s σ H _ I h) fun ov s1 ⟨x, H1, I1, rx, a, C, dx, fs, v, ex, ea, c, n, l, q⟩ => ?_)
  subst ex
  obtain rfl : ov = Value.ref a := rx
  refine getattr_ok I1 ea c n l fun u s2 I2 ru => thn (hv pins s2 σ H1 _ I2 q) fun w3 s3 ⟨y, H2, I3, ry, q3⟩ => thn (hop pins s3 σ H2 v y u w3 _ I3 ru ry q3) fun w4 s4 ⟨z, H3, I4, rz, dx', fs', ea', l', q4⟩ => ?_
  exact setattr_ok I4 ea' c n l' rz fun s5 I5 => ⟨σ, _, I5, q4⟩
def rAdd : V → V → Hp → VK → Prop := fun x y H Q => ∃ i j, x = .int i ∧ y = .int j ∧ Q (.int (i + j)) H
theorem in_add : InOp X .Add rAdd := by
  rintro pins s σ H x y u v Q I rx ry ⟨i, j, rfl, rfl, q⟩
  obtain ⟨t, rfl⟩ := (show ∃ t, u = Value.int i t from rx)
  obtain ⟨t', rfl⟩ := (show ∃ t', v = Value.int j t' from ry)
  exact PyProof.Rows.iadd_int ⟨.int (i + j), H, I.tok _, ⟨_, rfl⟩, q⟩
end
end L2
namespace L2
open PySem PySem.Spec PyProof.Rows
structure Room (k : Nat) (A : Around) : Prop where
  hd : A.handled = none
  dp : A.depth + 3 * k + 5 < recursionLimit
  un : A.units + 16 * k + 200 < cLine
theorem Room.mono {j k : Nat} {A : Around} (r : Room k A) (h : j ≤ k) : Room j A := ⟨r.hd, by have := r.dp; omega, by have := r.un; omega⟩
theorem Room.deeper {k : Nat} {A : Around} (r : Room (k + 1) A) (env : Env) : Room k (A.deeper env) :=
  ⟨r.hd, by have := r.dp; show A.depth + 1 + 3 * k + 5 < _; omega, by have := r.un; show A.units + 3 + 16 * k + 200 < _; omega⟩
theorem make_depth {A : Around} {C : Addr} {us : List Value} {kw : List (Str × Value)} : (A.under (.builtin "type.__call__" ⟨.ref C :: us, kw⟩)).depth = A.depth + 1 := by
  first | rfl | simp [Around.under, Code.weight, Code.isCreation, Code.isGuard, Code.isCaller, Code.frames, Code.isFrame, guardIds]
theorem make_units {A : Around} {C : Addr} {us : List Value} {kw : List (Str × Value)} : (A.under (.builtin "type.__call__" ⟨.ref C :: us, kw⟩)).units = A.units + 1 := by
  first | rfl | simp [Around.under, Code.cUnits, Code.frames, Code.isFrame]
theorem Room.make {k : Nat} {A : Around} (r : Room (k + 1) A) (C : Addr) (us : List Value) (kw : List (Str × Value)) : Room k (A.under (.builtin "type.__call__" ⟨.ref C :: us, kw⟩)) :=
  ⟨r.hd, by have := r.dp; rw [make_depth]; omega, by have := r.un; rw [make_units]; omega⟩
theorem Room.depth {k : Nat} {A : Around} (r : Room k A) : A.depth < recursionLimit := by have := r.dp; omega
def tNil : TA := fun _ H Q => Q [] H
def tCons (ta : TE) (tr : TA) : TA := fun σ H Q => ta σ H fun x H1 => tr σ H1 fun xs H2 => Q (x :: xs) H2
section
variable {X : Cx} {e : Expr} {es : List Expr} {te : TE} {t : TA} {pos : Pos}
theorem pa_nil : PA X [] tNil := fun _ _ _ _ H Q I h => Calls.spliced_nil ⟨[], H, I, .nil, h⟩
theorem pa_cons (ha : PE X e te) (hr : PA X es t) (hs : starEach (e :: es) X.env = (false, eval e X.env) :: starEach es X.env := by rfl) : PA X (e :: es) (tCons te t) := by
  intro pos pins s σ H Q I h
  rw [hs]
  show wpAny _ _ (spliced ((false, eval e X.env) :: backTo pos (starEach es X.env))) _ _ s
  refine Calls.spliced_cons (thn (ha pins s σ H _ I h) fun u s1 ⟨x, H1, I1, r1, q1⟩ => ?_)
  exact thn (hr pos pins s1 σ H1 _ I1 q1) fun us s2 ⟨xs, H2, I2, r2, q2⟩ => ⟨x :: xs, H2, I2, .cons r1 r2, q2⟩
def tLst (t : TA) : TE := fun σ H Q => t σ H fun xs H1 => xs.length ≤ sizeLine ∧ ∀ p, H1 p = none → Q (.ref p) (upd H1 p (.lst xs))
theorem pe_lst (h : PA X es t) : PE X (.List es pos) (tLst t) := by
  intro pins s σ H Q I hq
  refine wpAny_List_spliced (thn (h pos pins s σ H _ I hq) fun us s1 ⟨xs, H1, I1, r, z, q⟩ => ⟨by rw [← r.length]; exact z, ?_⟩)
  have hf : H1 s1.heap.objs.size = none := I1.hok.fresh (Nat.le_refl _)
  refine ⟨.ref s1.heap.objs.size, upd H1 s1.heap.objs.size (.lst xs), I1.laid (t' := s1.toks) (fun b u e => Heap.get?_push_of_some _ e) (Nat.le_refl _) ?_, rfl, q _ hf⟩
  exact ⟨z, us, 0, r, Heap.get?_push_size _ rfl⟩
end
abbrev Sp := List V → Hp → VK → XK → Prop
abbrev CXT := List Env → Hp → Shared → XK → Value → Shared → Prop
structure Env0 (P : Program) (w : World) (K : PySem.W.Frag) (mg : Str → Option Value) (base : Heap) (A : Around) (outer : List Env) (s : Shared) (H : Hp) : Prop where
  frames : A.frames = some outer
  mod : Mod K mg base
  bs : ∀ b o, base.get? b = some o → s.heap.get? b = some o ∧ H b = none
  bsz : base.objs.size ≤ s.heap.objs.size
  funs : s.heap.FunFrames base outer
  frf : ∀ b ∈ frs outer, H b = none
  hok : HOk P w H s.heap
  bare : AllBare s.gens
def CE (outer : List Env) (P : Program) (w : World) (H : Hp) (s : Shared) (Q : VK) (u : Value) (s' : Shared) : Prop :=
  ∃ v H', s'.os = s.os ∧ AllBare s'.gens ∧ Un (frs outer) [] H H' s.heap s'.heap ∧ HOk P w H' s'.heap ∧ RelV v u ∧ Q v H'
def CR (CX : CXT) (outer : List Env) (P : Program) (w : World) (H : Hp) (s : Shared) (Q : VK) (E : XK) (r : Result) (s' : Shared) : Prop :=
  match r with
  | .ok (.ret u) => CE outer P w H s Q u s'
  | .ok _ => False
  | .error e => CX outer H s E e s'
structure FnOk (P : Program) (w : World) (K : PySem.W.Frag) (mg : Str → Option Value) (base : Heap) (CX : CXT) (k : Nat) (f : Addr) (fd : FuncData) (ps : List Str) (sp : Sp) : Prop where
  len : ∀ vs H Q E, sp vs H Q E → vs.length = ps.length
  run : ∀ (A : Around) (outer : List Env) (s : Shared) (H : Hp) (args : Args) (us : List Value) (vs : List V) (Q : VK) (E : XK), Room k A → Env0 P w K mg base A outer s H → BindsTo s fd args (ps.zip us) → Vals vs us → sp vs H Q E →
    codeAny (model P w) A (.call (.ref f) args) (CR CX outer P w H s Q E) s
theorem Env0.make {P : Program} {w : World} {K : PySem.W.Frag} {mg : Str → Option Value} {base : Heap} {A : Around} {outer : List Env} {s : Shared} {H : Hp} (e : Env0 P w K mg base A outer s H) (C : Addr) (us : List Value) (kw : List (Str × Value)) :
    Env0 P w K mg base (A.under (.builtin "type.__call__" ⟨.ref C :: us, kw⟩)) outer s H := ⟨by first | exact e.frames | (simpa [Around.under, Code.envs, Code.isFrame, pushEnvs] using e.frames), e.mod, e.bs, e.bsz, e.funs, e.frf, e.hok, e.bare⟩
section
variable {X : Cx} {pins : List (Addr × Obj)} {σ : St} {H : Hp} {s s' : Shared}
theorem Inv.env0 (I : Inv X pins σ H s) : Env0 X.prog X.w X.K X.mg X.base X.A X.stack s H :=
  ⟨I.ok.frames, I.ok.mod, I.bs, Nat.le_trans I.ok.bsz I.sz, I.stack, I.stkFree, I.hok, I.bare⟩
theorem Inv.after {Q : VK} {u : Value} (I : Inv X pins σ H s) (h : CE X.stack X.prog X.w H s Q u s') : EP X pins σ Q u s' := by
  obtain ⟨v, H', os, bare, un, hok, r, q⟩ := h
  obtain ⟨hh, g, d, t, os'⟩ := s'
  obtain rfl : os' = s.os := os
  exact ⟨v, H', I.call (h' := hh) (g' := g) (d' := d) (t' := t) (ch := []) un hok bare (fun b z => absurd z (by simp)), r, q⟩
end
def tCall (sp : Sp) (dvs : List V) (E : XK) (t : TA) : TE := fun σ H Q => t σ H fun vs H1 => sp (vs ++ dvs) H1 Q E
def tMeth (C : Addr) (m : Str) (sp : Sp) (dvs : List V) (E : XK) (ta : TE) (t : TA) : TE := fun σ H Q => ta σ H fun x H1 => ∃ a dx fs, x = .ref a ∧ H1 a = some (.ins C dx fs) ∧ fs.lookup m = none ∧
  t σ H1 fun vs H2 => sp (x :: (vs ++ dvs)) H2 Q E
def tMake (C : Addr) (sp : Sp) (dvs : List V) (E : XK) (t : TA) : TE := fun σ H Q => t σ H fun vs H1 => ∀ x dx, H1 x = none → H1 dx = none → dx ≠ x →
  sp (.ref x :: (vs ++ dvs)) (upd (upd H1 dx (.own x)) x (.ins C dx [])) (fun v H2 => v = .non ∧ Q (.ref x) H2) E
def Binds (K : PySem.W.Frag) (fd : FuncData) (ps : List Str) (ds : List Value) : Prop :=
  ∀ (s : Shared) (us : List Value), K.In s.heap → (us ++ ds).length = ps.length → BindsTo s fd ⟨us, []⟩ (ps.zip (us ++ ds))
theorem Binds.all {K : PySem.W.Frag} {fd : FuncData} {ps : List Str} (h : ∀ us : List Value, us.length = ps.length → bindArgs fd ⟨us, []⟩ = pure (ps.zip us)) : Binds K fd ps [] := fun s us _ hl => by
  rw [List.append_nil] at hl ⊢
  exact .of_eq (h us hl)
def Passes (CX : CXT) (X : Cx) (E : XK) : Prop := ∀ (pins : List (Addr × Obj)) (σ : St) (H : Hp) (s : Shared) (e : Value) (s' : Shared), Inv X pins σ H s → CX X.stack H s E e s' → X.xe e s'
section
variable {X : Cx} {CX : CXT} {k : Nat} {f C : Addr} {fd : FuncData} {ps : List Str} {sp : Sp} {dvs : List V} {ds : List Value} {E : XK} {x m : Str} {p pos apos : Pos} {e o : Expr} {es : List Expr} {ta : TE} {t : TA}
theorem run_fn {pins : List (Addr × Obj)} {σ : St} {H : Hp} {s : Shared} {Q : VK} {us : List Value} {vs : List V} (F : FnOk X.prog X.w X.K X.mg X.base CX k f fd ps sp) (hr : Room k X.A) (hb : Binds X.K fd ps ds) (hd : Vals dvs ds) (hx : Passes CX X E)
    (I : Inv X pins σ H s) (r : Vals vs us) (h : sp (vs ++ dvs) H Q E) : wpAny (model X.prog X.w) X.A (call (.ref f) us) (EP X pins σ Q) X.xe s := by
  have r2 : Vals (vs ++ dvs) (us ++ ds) := r.append hd
  have hl : (us ++ ds).length = ps.length := by rw [← r2.length]; exact F.len _ _ _ _ h
  refine wpAny_call (codeAny_mono (F.run X.A X.stack s H ⟨us, []⟩ (us ++ ds) (vs ++ dvs) Q E hr I.env0 (hb s us I.kIn hl) r2 h) fun r s' hq => ?_)
  cases r with
  | error e => exact hx pins σ H s e s' I hq
  | ok fl =>
    cases fl with
    | ret u => exact I.after hq
    | next => exact False.elim hq
    | brk => exact False.elim hq
    | cont => exact False.elim hq
theorem pe_call (F : FnOk X.prog X.w X.K X.mg X.base CX k f fd ps sp) (hr : Room k X.A) (hg : Gl X x) (hm : X.mg x = some (.ref f)) (hk : PySem.W.keepIn X.K (.ref f) = true) (hb : Binds X.K fd ps ds) (hd : Vals dvs ds) (hx : Passes CX X E)
    (ha : PA X (e :: es) t) (hdb : (x == ("__debug__" : Str)) = false := by decide) (he : starEach (e :: es) X.env = (false, eval e X.env) :: starEach es X.env := by rfl) (hpl : (backTo pos (starEach es X.env)).any (·.1) = false := by rfl) :
    PE X (.Call (.Name x p) (e :: es) [] pos) (tCall sp dvs E t) := by
  intro pins s σ H Q I h
  refine wpAny_Call_Name_kw (ld_glob I hg hm ?_ hdb)
  refine PySem.W.callWith_K (h₀ := X.base) I.ok.mod.kin hk (thn (ha pos pins s σ H _ I h) fun us s1 ⟨vs, H1, I1, r, q⟩ => ⟨I1.kIn, ?_⟩) he hpl
  exact run_fn F hr hb hd hx I1 r q
theorem pe_meth {pl : Sem Bool} (he : PE X o ta) (c : Cls X.K C) (hm : Meth X.K C m f) (F : FnOk X.prog X.w X.K X.mg X.base CX k f fd ps sp) (hr : Room k X.A) (hb : Binds X.K fd ps ds) (hd : Vals dvs ds) (hx : Passes CX X E) (ha : PA X (e :: es) t)
    (hst : starEach (e :: es) X.env = (false, eval e X.env) :: starEach es X.env := by rfl) (hpl : (backTo pos (starEach es X.env)).any (·.1) = false := by rfl)
    (ht : eval (.Call (.Attribute o m apos) (e :: es) [] pos) X.env = (do
      let ov ← eval o X.env
      standAt apos.atName
      let (f, first) ← holding [ov] (getMethod ov m pl)
      callWith pos f first (backTo pos (starEach (e :: es) X.env)) (backToKw pos (keywordEach [] X.env))) := by rfl) :
    PE X (.Call (.Attribute o m apos) (e :: es) [] pos) (tMeth C m sp dvs E ta t) := by
  intro pins s σ H Q I h
  refine PySem.W.methodCall_KW (pl := pl) (thn (he pins s σ H _ I h) fun u s1 ⟨x, H1, I1, rx, a, dx, fs, ex, ea, l, q⟩ => ?_) ht
  subst ex
  obtain rfl : u = Value.ref a := rx
  refine getmeth_ok I1 ea c hm l ?_
  refine PySem.W.callWith_K (first := [.ref a]) (h₀ := X.base) I.ok.mod.kin hm.kp (thn (ha pos pins s1 σ H1 _ I1 q) fun us s2 ⟨vs, H2, I2, r, q2⟩ => ⟨I2.kIn, ?_⟩) hst hpl
  exact run_fn (us := .ref a :: us) (vs := .ref a :: vs) F hr hb hd hx I2 (.cons rfl r) q2
theorem pe_meth0 {pl : Sem Bool} (he : PE X o ta) (c : Cls X.K C) (hm : Meth X.K C m f) (F : FnOk X.prog X.w X.K X.mg X.base CX k f fd ps sp) (hr : Room k X.A) (hb : Binds X.K fd ps ds) (hd : Vals dvs ds) (hx : Passes CX X E)
    (ht : eval (.Call (.Attribute o m apos) [] [] pos) X.env = (do
      let ov ← eval o X.env
      standAt apos.atName
      let (f, first) ← holding [ov] (getMethod ov m pl)
      callWith pos f first (backTo pos (starEach [] X.env)) (backToKw pos (keywordEach [] X.env))) := by rfl) :
    PE X (.Call (.Attribute o m apos) [] [] pos) (tMeth C m sp dvs E ta tNil) := by
  intro pins s σ H Q I h
  refine PySem.W.methodCall_KW (pl := pl) (thn (he pins s σ H _ I h) fun u s1 ⟨x, H1, I1, rx, a, dx, fs, ex, ea, l, q⟩ => ?_) ht
  subst ex
  obtain rfl : u = Value.ref a := rx
  refine getmeth_ok I1 ea c hm l ?_
  exact PySem.W.callWith_K0 (first := [.ref a]) I1.kIn hm.kp (run_fn (us := [.ref a]) (vs := [.ref a]) F hr hb hd hx I1 (.cons rfl .nil) q)
structure Mk (K : PySem.W.Frag) (C f : Addr) : Prop where
  makes : PySem.W.makesIn K C = true
  init : PySem.W.findIn K (.ref C) "__init__" = some (some (.ref f))
  fn : PySem.W.isFn K (.ref f) = true
  kp : PySem.W.keepIn K (.ref C) = true
theorem run_make {pins : List (Addr × Obj)} {σ : St} {H : Hp} {s : Shared} {Q : VK} {us : List Value} {vs : List V} (M : Mk X.K C f) (F : FnOk X.prog X.w X.K X.mg X.base CX k f fd ps sp) (hr : Room (k + 1) X.A) (hb : Binds X.K fd ps ds) (hd : Vals dvs ds)
    (hx : Passes CX X E) (I : Inv X pins σ H s) (r : Vals vs us)
    (h : ∀ x dx, H x = none → H dx = none → dx ≠ x → sp (.ref x :: (vs ++ dvs)) (upd (upd H dx (.own x)) x (.ins C dx [])) (fun v H2 => v = .non ∧ Q (.ref x) H2) E) :
    wpAny (model X.prog X.w) X.A (call (.ref C) us) (EP X pins σ Q) X.xe s := by
  have hq := h (s.heap.objs.size + 1) s.heap.objs.size (I.hok.fresh (Nat.le_succ _)) (I.hok.fresh (Nat.le_refl _)) (Nat.ne_of_lt (Nat.lt_succ_self _))
  have I2 := Inv.made (C := C) I
  have r2 : Vals (V.ref (s.heap.objs.size + 1) :: (vs ++ dvs)) (Value.ref (s.heap.objs.size + 1) :: (us ++ ds)) := .cons rfl (r.append hd)
  have hl : (Value.ref (s.heap.objs.size + 1) :: us ++ ds).length = ps.length := by
    have e := r2.length
    rw [F.len _ _ _ _ hq] at e
    exact e.symm
  refine wpAny_call (make_map (f := f) I.kIn M.makes M.init (beq_iff_eq.mp M.fn) (codeAny_mono (F.run _ X.stack _ _ ⟨Value.ref (s.heap.objs.size + 1) :: us, []⟩ (Value.ref (s.heap.objs.size + 1) :: (us ++ ds)) _ _ E (hr.make C us [])
    (I2.env0.make C us []) (hb _ (Value.ref (s.heap.objs.size + 1) :: us) I2.kIn hl) r2 hq) fun r s' hq' => ?_))
  cases r with
  | error e => exact hx pins σ _ _ e s' I2 hq'
  | ok fl =>
    cases fl with
    | ret u =>
      obtain ⟨v, H', I3, rv, ev, q3⟩ := I2.after hq'
      subst ev
      exact ⟨rv, ⟨V.ref (s.heap.objs.size + 1), H', I3, rfl, q3⟩⟩
    | next => exact False.elim hq'
    | brk => exact False.elim hq'
    | cont => exact False.elim hq'
theorem pe_make (M : Mk X.K C f) (F : FnOk X.prog X.w X.K X.mg X.base CX k f fd ps sp) (hr : Room (k + 1) X.A) (hg : Gl X x) (hm : X.mg x = some (.ref C)) (hb : Binds X.K fd ps ds) (hd : Vals dvs ds) (hx : Passes CX X E)
    (ha : PA X (e :: es) t) (hdb : (x == ("__debug__" : Str)) = false := by decide) (he : starEach (e :: es) X.env = (false, eval e X.env) :: starEach es X.env := by rfl) (hpl : (backTo pos (starEach es X.env)).any (·.1) = false := by rfl) :
    PE X (.Call (.Name x p) (e :: es) [] pos) (tMake C sp dvs E t) := by
  intro pins s σ H Q I h
  refine wpAny_Call_Name_kw (ld_glob I hg hm ?_ hdb)
  refine PySem.W.callWith_K (h₀ := X.base) I.ok.mod.kin M.kp (thn (ha pos pins s σ H _ I h) fun us s1 ⟨vs, H1, I1, r, q⟩ => ⟨I1.kIn, ?_⟩) he hpl
  exact run_make M F hr hb hd hx I1 r q
theorem pe_make0 (M : Mk X.K C f) (F : FnOk X.prog X.w X.K X.mg X.base CX k f fd ps sp) (hr : Room (k + 1) X.A) (hg : Gl X x) (hm : X.mg x = some (.ref C)) (hb : Binds X.K fd ps ds) (hd : Vals dvs ds) (hx : Passes CX X E)
    (hdb : (x == ("__debug__" : Str)) = false := by decide) : PE X (.Call (.Name x p) [] [] pos) (tMake C sp dvs E tNil) := by
  intro pins s σ H Q I h
  refine wpAny_Call_Name_kw (ld_glob I hg hm ?_ hdb)
  exact PySem.W.callWith_K0 I.kIn M.kp (run_make (us := []) M F hr hb hd hx I .nil h)
end
def PK (X : Cx) (kws : List Keyword) (t : TA) : Prop :=
  ∀ (pos : Pos) (pins : List (Addr × Obj)) (s : Shared) (σ : St) (H : Hp) (Q : List V → Hp → Prop), Inv X pins σ H s → t σ H Q → wpAny (model X.prog X.w) X.A (evalAll ((backToKw pos (keywordEach kws X.env)).map (·.2))) (AP X pins σ Q) X.xe s
section
variable {X : Cx} {CX : CXT} {k : Nat} {f C : Addr} {fd : FuncData} {ps ks : List Str} {sp : Sp} {E : XK} {x m : Str} {p pos apos kpos : Pos} {e o : Expr} {es : List Expr} {kws : List Keyword} {te ta : TE} {t tk : TA} {nm : Option Str}
theorem pk_nil : PK X [] tNil := fun _ _ _ _ H Q I h => wpAny_evalAll_nil ⟨[], H, I, .nil, h⟩
theorem pk_cons (ha : PE X e te) (hr : PK X kws t) : PK X (⟨nm, e, kpos⟩ :: kws) (tCons te t) := by
  intro pos pins s σ H Q I h
  show wpAny _ _ (evalAll ((do let v ← eval e X.env; standAt pos; pure v) :: (backToKw pos (keywordEach kws X.env)).map (·.2))) _ _ s
  refine wpAny_evalAll_cons (wpAny_bind (thn (ha pins s σ H _ I h) fun u s1 ⟨x, H1, I1, r1, q1⟩ => wpAny_bind (wpAny_standAt (wpAny_pure ?_))))
  exact thn (hr pos pins s1 σ H1 _ I1 q1) fun us s2 ⟨xs, H2, I2, r2, q2⟩ => ⟨x :: xs, H2, I2, .cons r1 r2, q2⟩
variable {g : List Value → List Value → List Value} {gV : List V → List V → List V}
end
structure FnScope (N P : List Str) (sc : Scope) : Prop where
  kind : sc.kind = .function
  co : sc.isCoroutine = false
  gen : sc.isGenerator = false
  nd : N.Nodup
  pre : N.take P.length = P
  par : ∀ x ∈ P, sc.names.lookup x = some .local ∨ sc.names.lookup x = some .cell
  nofree : ∀ y ∈ sc.names, y.2 ≠ .free
theorem bindL_out {kindOf : Str → Option NameKind} {x : Str} : ∀ {binds : List (Str × Value)} {m : Str → Option Value}, (∀ v, (x, v) ∉ binds) → bindL kindOf binds m x = m x
  | [], _, _ => rfl
  | (n, v) :: r, m, h => by
    unfold bindL
    rw [bindL_out fun w hw => h w (List.mem_cons_of_mem _ hw)]
    split
    · have : x ≠ n := by rintro rfl; exact h v List.mem_cons_self
      simp [this]
    · rfl
theorem bindC_out {kindOf : Str → Option NameKind} {x : Str} : ∀ {binds : List (Str × Value)} {m : Str → Option Value}, (∀ v, (x, v) ∉ binds) → bindC kindOf binds m x = m x
  | [], _, _ => rfl
  | (n, v) :: r, m, h => by
    unfold bindC
    rw [bindC_out fun w hw => h w (List.mem_cons_of_mem _ hw)]
    split
    · rfl
    · have : x ≠ n := by rintro rfl; exact h v List.mem_cons_self
      simp [this]
theorem bindL_get {kindOf : Str → Option NameKind} {x : Str} {v : Value} : ∀ {P : List Str} {vs : List Value} {i : Nat} {m : Str → Option Value}, P.Nodup → P[i]? = some x → vs[i]? = some v → kindOf x = some .local →
    bindL kindOf (P.zip vs) m x = some v
  | [], _, _, _, _, h, _, _ => by simp at h
  | _ :: _, [], _, _, _, _, h, _ => by simp at h
  | p :: P, w :: vs, 0, m, nd, h1, h2, hk => by
    simp at h1 h2; subst h1; subst h2
    show bindL kindOf ((p, w) :: P.zip vs) m p = _
    unfold bindL
    rw [bindL_out fun v hv => (List.nodup_cons.mp nd).1 (List.of_mem_zip hv).1, if_pos hk]
    simp
  | p :: P, w :: vs, i + 1, m, nd, h1, h2, hk => by
    show bindL kindOf ((p, w) :: P.zip vs) m x = _
    unfold bindL
    exact bindL_get (i := i) (List.nodup_cons.mp nd).2 (by simpa using h1) (by simpa using h2) hk
theorem bindC_get {kindOf : Str → Option NameKind} {x : Str} {v : Value} : ∀ {P : List Str} {vs : List Value} {i : Nat} {m : Str → Option Value}, P.Nodup → P[i]? = some x → vs[i]? = some v → kindOf x ≠ some .local →
    bindC kindOf (P.zip vs) m x = some v
  | [], _, _, _, _, h, _, _ => by simp at h
  | _ :: _, [], _, _, _, _, h, _ => by simp at h
  | p :: P, w :: vs, 0, m, nd, h1, h2, hk => by
    simp at h1 h2; subst h1; subst h2
    show bindC kindOf ((p, w) :: P.zip vs) m p = _
    unfold bindC
    rw [bindC_out fun v hv => (List.nodup_cons.mp nd).1 (List.of_mem_zip hv).1, if_neg hk]
    simp
  | p :: P, w :: vs, i + 1, m, nd, h1, h2, hk => by
    show bindC kindOf ((p, w) :: P.zip vs) m x = _
    unfold bindC
    exact bindC_get (i := i) (List.nodup_cons.mp nd).2 (by simpa using h1) (by simpa using h2) hk
def start (N : List Str) (vs : List V) : St := vs.map some ++ List.replicate (N.length - vs.length) none
def cxOf (CX : CXT) (P : Program) (w : World) (K : PySem.W.Frag) (mg : Str → Option Value) (base : Heap) (N : List Str) (qual : Str) (scope : Scope) (f : Addr) (cd : Value) (A : Around) (outer : List Env) (s : Shared) (H : Hp) (E : XK) : Cx where
  prog := P
  w := w
  K := K
  mg := mg
  base := base
  A := A.deeper (envOfC qual scope s.heap.objs.size f cd)
  N := N
  s_0 := s
  H_0 := H
  env := envOfC qual scope s.heap.objs.size f cd
  outer := outer
  stack := envOfC qual scope s.heap.objs.size f cd :: outer
  ex := []
  calm := true
  fn := fun _ => true
  pn := []
  xe := fun e s' => wpAny (model P w) (A.deeper (envOfC qual scope s.heap.objs.size f cd)) (leaving (envOfC qual scope s.heap.objs.size f cd) e) (fun _ s'' => CX outer H s E e s'') (fun e' s'' => CX outer H s E e' s'') s'
theorem cell_has {sc : Scope} {n : Nat} {x : Str} (h : sc.names.lookup x = some .cell) : ∃ c, (cellsFrom n sc.names []).lookup x = some c := by
  have q := PySem.W.cellsFrom_some sc.names n [] (.inl h)
  exact Option.isSome_iff_exists.mp q
theorem inv_start {CX : CXT} {P : Program} {w : World} {K : PySem.W.Frag} {mg : Str → Option Value} {base : Heap} {N ps : List Str} {qual : Str} {scope : Scope} {f : Addr} {cd : Value} {A : Around} {outer : List Env} {s s1 : Shared} {H : Hp} {E : XK} {us : List Value} {vs : List V}
    (S : FnScope N ps scope) (hd : A.handled = none) (e0 : Env0 P w K mg base A outer s H) (hl : vs.length = ps.length) (r : Vals vs us)
    (x : InCallC s s.heap.objs.size (bindL (envOfC qual scope s.heap.objs.size f cd).kindOf (ps.zip us) fun _ => none) (cellsFrom (s.heap.objs.size + 1) scope.names []) (bindC (envOfC qual scope s.heap.objs.size f cd).kindOf (ps.zip us) fun _ => none) s1) :
    Inv (cxOf CX P w K mg base N qual scope f cd A outer s H E) [] (start N vs) H s1 := by
  have hpl : ps.length ≤ N.length := by have := congrArg List.length S.pre; rw [List.length_take] at this; omega
  obtain ⟨h1, tk, rfl, hk⟩ := x.done
  have noA : ∀ b : Addr, b ∉ (cxOf CX P w K mg base N qual scope f cd A outer s H E).ex := fun b z => absurd (show b ∈ ([] : List Addr) from z) (by simp)
  refine ⟨⟨e0.mod, S.kind, rfl, rfl, Nat.le_refl _, fun y z c h1 h2 => ?_, fun y hy => ?_, fun y c _ h => ?_, fun _ => hd, Around.frames_deeper e0.frames, .inr ⟨rfl, rfl⟩, fun b z => absurd z (noA b), e0.bs, e0.bsz, fun b _ _ => noA b, fun b z => absurd z (noA b), e0.funs, e0.frf⟩,
    rfl, e0.bare, Un.kept hk, ⟨_, x.toInCall.ns, fun i y v h1 h2 h3 => ?_⟩, fun y c h => ⟨_, x.cell y c h⟩, e0.hok.fresh (Nat.le_refl _), fun y c h => ?_, fun p hp => absurd (show p ∈ ([] : List (Addr × Obj)) from hp) (by simp), e0.hok.kept hk, ?_⟩
  · exact name_of_addr x.apart (PySem.mem_of_lookup h1) (PySem.mem_of_lookup h2)
  · have hy : scope.names.lookup y = some .cell ∨ scope.names.lookup y = some .free := hy
    rcases hy with hy | hy
    · exact cell_has hy
    · exact absurd rfl (S.nofree _ (PySem.mem_of_lookup hy))
  · exact Nat.le_of_lt (x.above y c (PySem.mem_of_lookup h))
  · have hi : i < vs.length := by
      unfold start at h2
      by_cases hi : i < vs.length
      · exact hi
      · rw [List.getElem?_append_right (by simpa using hi)] at h2
        rw [List.getElem?_replicate] at h2
        split at h2 <;> cases h2
    have ha : vs[i]? = some v := by
      unfold start at h2
      rw [List.getElem?_append_left (by simpa using hi), List.getElem?_map] at h2
      cases e : vs[i]? with
      | none => rw [e] at h2; cases h2
      | some a => rw [e] at h2; cases h2; rfl
    obtain ⟨u, hu, rv⟩ := r.get ha
    have hp : ps[i]? = some y := by
      rw [← S.pre, List.getElem?_take_of_lt (by omega)]; exact h1
    have ndP : ps.Nodup := by rw [← S.pre]; exact S.nd.sublist (List.take_sublist _ _)
    refine ⟨u, rv, ?_⟩
    rcases S.par y (List.mem_of_getElem? hp) with k | k
    · exact .inl ⟨k, bindL_get ndP hp hu k⟩
    · obtain ⟨c, e⟩ := cell_has (n := s.heap.objs.size + 1) k
      refine .inr ⟨.inl k, c, e, ?_⟩
      have q := x.cell y c e
      rw [bindC_get ndP hp hu (by show scope.names.lookup y ≠ _; rw [k]; decide)] at q
      exact q
  · exact e0.hok.fresh (Nat.le_of_lt (x.above y c (PySem.mem_of_lookup h)))
  · unfold start
    show _ = N.length
    rw [List.length_append, List.length_map, List.length_replicate]
    omega
theorem fn_of {CX : CXT} {P : Program} {w : World} {K : PySem.W.Frag} {mg : Str → Option Value} {base : Heap} {k : Nat} {f : Addr} {name qual : Str} {params : Arguments} {body : List Stmt} {scope : Scope} {dV kV doc pm cdv ct oc : Value} {an od : Option Addr}
    {osl : Array (Option Value)} {N ps : List Str} {sp : Sp} (lk : K.lookup f = some ⟨oc, od, .func (PySem.W.fnOf name qual params body scope dV kV doc pm an cdv ct), osl⟩) (hcd : PySem.W.codeIn K cdv qual = true) (S : FnScope N ps scope)
    (len : ∀ vs H Q E, sp vs H Q E → vs.length = ps.length)
    (hbody : ∀ (A : Around) (outer : List Env) (s : Shared) (H : Hp) (vs : List V) (Q : VK) (E : XK), Room k (A.deeper (envOfC qual scope s.heap.objs.size f cdv)) → sp vs H Q E →
      ∃ t, PSs (cxOf CX P w K mg base N qual scope f cdv A outer s H E) body t ∧ t { nx := fun _ H' => Q .non H', rt := Q } (start N vs) H) :
    FnOk P w K mg base CX (k + 1) f (PySem.W.fnOf name qual params body scope dV kV doc pm an cdv ct) ps sp := by
  refine ⟨len, fun A outer s H args us vs Q E hr e0 hb r hsp => ?_⟩
  have hl := len _ _ _ _ hsp
  have KX : K.In s.heap := e0.mod.kin.keeps fun b o e => (e0.bs b o e).1
  have lim : s.heap.NoLimit := e0.mod.nolimit.keeps fun b o e => (e0.bs b o e).1
  have hkind : ∀ y ∈ ps.zip us, scope.names.lookup y.1 = some .local ∨ (scope.names.lookup y.1 = some .cell ∧ ((cellsFrom (s.heap.objs.size + 1) scope.names []).lookup y.1).isSome = true) := fun ⟨n, v⟩ hy => by
    rcases S.par n (List.of_mem_zip hy).1 with q | q
    · exact .inl q
    · exact .inr ⟨q, PySem.W.cellsFrom_some _ _ _ (.inl q)⟩
  refine codeAny_call_function hr.depth (KX _ _ lk) rfl S.co S.gen rfl (PySem.W.codeRec_of KX hcd) (hb _ _ _ _ ?_)
  refine wpAny_newFunctionEnv_cells S.kind hkind fun env he s1 x => ?_
  subst he
  refine ⟨lim.keeps x.toInCall.keep, codeAny_func ?_⟩
  obtain ⟨t, ht, hq⟩ := hbody A outer s H vs Q E (hr.deeper _) hsp
  have I : Inv (cxOf CX P w K mg base N qual scope f cdv A outer s H E) [] (start N vs) H s1 := inv_start S hr.hd e0 hl r x
  refine wpAny_mono (ht [] s1 (start N vs) H _ I hq) (fun fl s' hs => ?_) fun e s' hs => hs
  have fin : ∀ {σ' : St} {H' : Hp} {v : V} {u : Value}, Inv (cxOf CX P w K mg base N qual scope f cdv A outer s H E) [] σ' H' s' → RelV v u → Q v H' → CE outer P w H s Q u s' :=
    fun {σ' H' v u} J rv q => ⟨v, H', J.os, J.bare, J.base, J.hok, rv, q⟩
  cases fl with
  | ret u =>
    obtain ⟨v, σ', H', J, rv, q⟩ := hs
    exact fin J rv q
  | next =>
    obtain ⟨σ', H', J, q⟩ := hs
    exact fin (v := V.non) (u := Value.none) J rfl q
  | brk =>
    obtain ⟨_, _, _, q⟩ := hs
    exact False.elim q
  | cont =>
    obtain ⟨_, _, _, q⟩ := hs
    exact False.elim q
end L2
namespace L2
open PySem PySem.Spec PyProof.Rows
section
variable {X : Cx} {x : Str} {p pos : Pos} {e : Expr} {es : List Expr} {t : TA} {id T : String} {r : List V → Hp → VK → Prop}
def tCB (r : List V → Hp → VK → Prop) (t : TA) : TE := fun σ H Q => t σ H fun vs H1 => r vs H1 Q
theorem pe_callB (hc : CallR X (.builtin id) r) (hg : Gl X x) (hm : X.mg x = none) (hv : bootBuiltins x = some (.builtin id)) (ha : PA X (e :: es) t) (hn : x ≠ "__name__" := by decide) (hdb : (x == ("__debug__" : Str)) = false := by decide)
    (he : starEach (e :: es) X.env = (false, eval e X.env) :: starEach es X.env := by rfl) (hpl : (backTo pos (starEach es X.env)).any (·.1) = false := by rfl) : PE X (.Call (.Name x p) (e :: es) [] pos) (tCB r t) := by
  intro pins s σ H Q I h
  refine wpAny_Call_Name_kw (ld_blt I hg hm hv ?_ hn hdb)
  exact PyProof.Rows.callWith_builtin1 (thn (ha pos pins s σ H _ I h) fun us s1 ⟨vs, H1, I1, r1, q1⟩ => hc pins s1 σ H1 vs us Q I1 r1 q1) he hpl
theorem pe_callTy (hc : CallR X (.type T) r) (hg : Gl X x) (hm : X.mg x = none) (hv : bootBuiltins x = some (.type T)) (ha : PA X (e :: es) t) (hn : x ≠ "__name__" := by decide) (hdb : (x == ("__debug__" : Str)) = false := by decide)
    (he : starEach (e :: es) X.env = (false, eval e X.env) :: starEach es X.env := by rfl) (hpl : (backTo pos (starEach es X.env)).any (·.1) = false := by rfl) : PE X (.Call (.Name x p) (e :: es) [] pos) (tCB r t) := by
  intro pins s σ H Q I h
  refine wpAny_Call_Name_kw (ld_blt I hg hm hv ?_ hn hdb)
  exact PyProof.Rows.callWith_type1 (thn (ha pos pins s σ H _ I h) fun us s1 ⟨vs, H1, I1, r1, q1⟩ => hc pins s1 σ H1 vs us Q I1 r1 q1) he hpl
end
end L2
namespace HT
open PySem PyProof.Rows
section
variable {prog : Program} {w : World} {A : Around} {E : Value → Shared → Prop} {s : Shared}
def sIx (n d : Nat) : Option Int → Nat
  | none => d
  | some v => if v < 0 then (v + (n : Int)).toNat else min v.toNat n
end
end HT
namespace L2
open PySem PySem.Spec PyProof.Rows
abbrev TO := St → Hp → (Option Int → Hp → Prop) → Prop
def PO (X : Cx) (e : Option Expr) (t : TO) : Prop :=
  ∀ (pins : List (Addr × Obj)) (s : Shared) (σ : St) (H : Hp) (Q : Option Int → Hp → Prop), Inv X pins σ H s → t σ H Q →
    wpAny (model X.prog X.w) X.A (evalPart e X.env) (fun u s' => ∃ o H', Inv X pins σ H' s' ∧ IsPart u o ∧ Q o H') X.xe s
def tNoPart : TO := fun _ H Q => Q none H
def tPart (t : TE) : TO := fun σ H Q => t σ H fun x H1 => ∃ i, x = .int i ∧ Q (some i) H1
section
variable {X : Cx} {e : Expr} {te : TE} {lo hi : Option Expr} {tl th : TO} {pos p2 : Pos}
theorem po_none : PO X none tNoPart := by
  intro pins s σ H Q I h
  rw [evalPart_none]
  exact wpAny_pure ⟨none, H, I, .none, h⟩
theorem po_some (h : PE X e te) : PO X (some e) (tPart te) := by
  intro pins s σ H Q I hw
  rw [evalPart_some]
  refine thn (h pins s σ H _ I hw) fun u s1 ⟨x, H1, I1, r1, q1⟩ => ?_
  obtain ⟨i, rfl, q⟩ := q1
  obtain ⟨t, rfl⟩ := r1
  exact ⟨some i, H1, I1, .int i t, q⟩
def SlR (X : Cx) (r : V → Option Int → Option Int → Hp → VK → Prop) : Prop :=
  ∀ (pins : List (Addr × Obj)) (s : Shared) (σ : St) (H : Hp) (x : V) (v vl vu : Value) (lo hi : Option Int) (sl : Addr) (Q : VK), Inv X pins σ H s → RelV x v → s.heap.IsSliceOf sl vl vu .none → IsPart vl lo → IsPart vu hi → r x lo hi H Q →
    ∃ T id, typeLookup (.type T) "__getitem__" = pure (some (.builtin id)) ∧ s.TypeIs v T ∧ wpAny (model X.prog X.w) X.A (getItem v (.ref sl)) (EP X pins σ Q) X.xe s
def tSl (r : V → Option Int → Option Int → Hp → VK → Prop) (te : TE) (tl th : TO) : TE := fun σ H Q => te σ H fun x H1 => tl σ H1 fun l H2 => th σ H2 fun u H3 => r x l u H3 Q
theorem pe_slice {r : V → Option Int → Option Int → Hp → VK → Prop} (hr : SlR X r) (he : PE X e te) (hl : PO X lo tl) (hu : PO X hi th) : PE X (.Subscript e (.Slice lo hi none p2) pos) (tSl r te tl th) := by
  intro pins s σ H Q I h
  refine Subscript_ (thn (he pins s σ H _ I h) fun v s1 ⟨x, H1, I1, r1, q1⟩ => ?_)
  refine wpAny_Slice (thn (hl pins s1 σ H1 _ I1 q1) fun vl s2 ⟨l, H2, I2, pl, q2⟩ => thn (hu pins s2 σ H2 _ I2 q2) fun vu s3 ⟨u, H3, I3, pu, q3⟩ => ?_)
  rw [evalPart_none]
  refine wpAny_pure ?_
  have I4 : Inv X pins σ H3 { s3 with heap := s3.heap.push { cls := .type "slice", data := .fields #[vl, vu, .none] } } := I3.kept (t' := s3.toks) fun b ob q => Heap.get?_push_of_some _ q
  obtain ⟨T, id, hT, ht, hg⟩ := hr pins { s3 with heap := s3.heap.push { cls := .type "slice", data := .fields #[vl, vu, .none] } } σ H3 x v vl vu l u s3.heap.objs.size Q I4 r1 (Heap.IsSliceOf.new ..) pl pu q3
  show wpAny (model X.prog X.w) X.A (subscriptTail e (.Slice lo hi none p2) v (.ref s3.heap.objs.size)) (EP X pins σ Q) X.xe { s3 with heap := s3.heap.push { cls := .type "slice", data := .fields #[vl, vu, .none] } }
  exact tail_any (ops := [.ref s3.heap.objs.size, v]) ht hT hg (by with_unfolding_all rfl)
def cutV (xs : List V) (lo hi : Option Int) : List V := (xs.drop (HT.sIx xs.length 0 lo)).take (HT.sIx xs.length xs.length hi - HT.sIx xs.length 0 lo)
theorem cutV_length (xs : List V) (lo hi : Option Int) : (cutV xs lo hi).length ≤ xs.length := by
  unfold cutV
  rw [List.length_take, List.length_drop]
  omega
end
end L2
namespace L2
open PySem PySem.Spec PyProof.Rows
def ixN (n : Nat) (i : Int) : Option Nat := if 0 ≤ i then (if i < n then some i.toNat else none) else if -(n : Int) ≤ i then some (i + n).toNat else none
def atI {α : Type} (xs : List α) (i : Int) : Option α := (ixN xs.length i).bind fun j => xs[j]?
theorem ixN_seq {n : Nat} {i : Int} {j : Nat} (h : ixN n i = some j) : seqIndex? i n = some j ∧ j < n ∧ -(n : Int) ≤ i ∧ i < n := by
  unfold ixN at h
  by_cases h0 : 0 ≤ i
  · rw [if_pos h0] at h
    by_cases h1 : i < n
    · rw [if_pos h1] at h
      have e : i.toNat = j := Option.some.inj h
      exact ⟨by rw [seqIndex_of h0 h1, e], by omega, by omega, h1⟩
    · rw [if_neg h1] at h; cases h
  · rw [if_neg h0] at h
    by_cases h1 : -(n : Int) ≤ i
    · rw [if_pos h1] at h
      have e : (i + n).toNat = j := Option.some.inj h
      exact ⟨by rw [seqIndex_neg (by omega) h1, e], by omega, h1, by omega⟩
    · rw [if_neg h1] at h; cases h
theorem atI_get {α : Type} {xs : List α} {i : Int} {v : α} (h : atI xs i = some v) : ∃ j, seqIndex? i xs.length = some j ∧ xs[j]? = some v ∧ j < xs.length ∧ -(xs.length : Int) ≤ i ∧ i < xs.length := by
  unfold atI at h
  cases e : ixN xs.length i with
  | none => rw [e] at h; cases h
  | some j =>
    rw [e] at h
    obtain ⟨h1, h2, h3, h4⟩ := ixN_seq e
    exact ⟨j, h1, h, h2, h3, h4⟩
theorem atI_nat {α : Type} {xs : List α} {j : Nat} {v : α} (h : xs[j]? = some v) : atI xs (j : Int) = some v := by
  have hj : j < xs.length := (List.getElem?_eq_some_iff.mp h).1
  have e : ixN xs.length (j : Int) = some j := by
    unfold ixN
    rw [if_pos (by omega), if_pos (by omega)]; simp
  unfold atI; rw [e]; exact h
def PlainIx (b : Expr) : Prop := ∀ o i, subscripted b false o i = operate [o, i] (getItem o i)
def IxR (X : Cx) (r : R2) : Prop :=
  ∀ (value slice : Expr) (pins : List (Addr × Obj)) (s : Shared) (σ : St) (H : Hp) (x y : V) (v u : Value) (Q : VK), Inv X pins σ H s → RelV x v → RelV y u → r x y H Q →
    subscripted slice false v u = operate [v, u] (getItem v u) → wpAny (model X.prog X.w) X.A (subscriptTail value slice v u) (EP X pins σ Q) X.xe s
def MtR (X : Cx) (id : String) (r : V → List V → Hp → VK → Prop) : Prop :=
  ∀ (pins : List (Addr × Obj)) (s : Shared) (σ : St) (H : Hp) (x : V) (xs : List V) (v : Value) (us : List Value) (Q : VK), Inv X pins σ H s → RelV x v → Vals xs us → r x xs H Q →
    wpAny (model X.prog X.w) X.A (call (.builtin id) (v :: us)) (EP X pins σ Q) X.xe s
section
variable {X : Cx} {a b : Expr} {ta tb : TE} {pos : Pos}
theorem pe_ix {r : R2} (hr : IxR X r) (ha : PE X a ta) (hb : PE X b tb) (hs : PlainIx b) : PE X (.Subscript a b pos) (tOp r ta tb) := by
  intro pins s σ H Q I h
  exact Subscript_ (binT ha hb I h fun v u s2 x y H2 I2 rx ry q => hr a b pins s2 σ H2 x y v u Q I2 rx ry q (hs _ _))
def rIxL (K : PySem.W.Frag) : R2 := fun x y H Q => ∃ p xs i v, x = .ref p ∧ y = .int i ∧ SqL K H p xs ∧ atI xs i = some v ∧ Q v H
def rIxT (K : PySem.W.Frag) : R2 := fun x y H Q => ∃ p xs i v, x = .ref p ∧ y = .int i ∧ SqT K H p xs ∧ atI xs i = some v ∧ Q v H
theorem ix_list : IxR X (rIxL X.K) := by
  intro value slice pins s σ H x y v u Q I rx ry h hs
  obtain ⟨p, xs, i, z, rfl, rfl, hq, he, q⟩ := h
  cases rx
  obtain ⟨t, rfl⟩ := ry
  obtain ⟨its, r, pl, hz⟩ := I.list hq
  obtain ⟨j, h1, h2, h3, h4, h5⟩ := atI_get he
  obtain ⟨w, ew, rw'⟩ := r.get h2
  have hl := r.length
  have hn := line63
  have fin : EP X pins σ Q w s := ⟨z, H, I, rw', q⟩
  by_cases h0 : 0 ≤ i
  · have hj : i.toNat = j := by
      rw [seqIndex_of h0 h5] at h1
      exact Option.some.inj h1
    exact item_listR pl.isList h0 (by omega) (by rw [hj]; simpa using ew) fin hs
  · have hj : (i + (its.toArray.size : Int)).toNat = j := by
      rw [seqIndex_neg (by omega) h4] at h1
      rw [List.size_toArray, ← hl]
      exact Option.some.inj h1
    exact subscriptTail_builtinR (x := w) pl.isList.typeIs slot_list_getitem.lookup
      (wpAny_getItem_list_neg (Q := fun r s' => r = w ∧ EP X pins σ Q r s') pl.isList (by omega) (by rw [List.size_toArray] <;> omega) (by omega) (by rw [hj]; simpa using ew) ⟨rfl, fin⟩) hs
theorem ix_tup : IxR X (rIxT X.K) := by
  intro value slice pins s σ H x y v u Q I rx ry h hs
  obtain ⟨p, xs, i, z, rfl, rfl, hq, he, q⟩ := h
  cases rx
  obtain ⟨t, rfl⟩ := ry
  obtain ⟨its, r, pl, hz⟩ := I.tuple hq
  obtain ⟨j, h1, h2, h3, h4, h5⟩ := atI_get he
  obtain ⟨w, ew, rw'⟩ := r.get h2
  have hl := r.length
  have hn := line63
  have fin : EP X pins σ Q w s := ⟨z, H, I, rw', q⟩
  exact subscriptTail_builtinR (x := w) pl.typeIs slot_tuple_getitem.lookup
    (getItem_tuple (j := j) (Q := fun r s' => r = w ∧ EP X pins σ Q r s') pl (by omega) (by omega) (by rw [List.size_toArray, ← hl]; exact h1) (by simpa using ew) ⟨rfl, fin⟩) hs
theorem mapSeq_set (its : List Value) (n j : Nat) (u : Value) : Obj.mapSeq (·.setIfInBounds j u) { cls := .type "list", data := .seq its.toArray n } = { cls := .type "list", data := .seq (its.set j u).toArray n } := by
  simp [Obj.mapSeq]
theorem Inv.lst {pins : List (Addr × Obj)} {σ : St} {H : Hp} {s : Shared} {p : Addr} {xs : List V} (I : Inv X pins σ H s) (h : H p = some (.lst xs)) :
    ∃ (its : List Value) (n : Nat), Vals xs its ∧ s.heap.get? p = some { cls := .type "list", data := .seq its.toArray n } ∧ xs.length ≤ sizeLine := by
  obtain ⟨z, its, n, r, e⟩ := I.hok p _ h
  exact ⟨its, n, r, e, z⟩
theorem Inv.lstUpd {pins : List (Addr × Obj)} {σ : St} {H : Hp} {s : Shared} {p : Addr} {xs ys : List V} {its its' : List Value} {n n' : Nat} {f : Obj → Obj} (I : Inv X pins σ H s) (h : H p = some (.lst xs))
    (ho : s.heap.get? p = some { cls := .type "list", data := .seq its.toArray n }) (hf : f { cls := .type "list", data := .seq its.toArray n } = { cls := .type "list", data := .seq its'.toArray n' }) (r : Vals ys its') (hz : ys.length ≤ sizeLine) (t : Nat) :
    Inv X pins σ (upd H p (.lst ys)) { s with heap := s.heap.update p f, toks := t } := by
  have e : (s.heap.update p f).get? p = some { cls := .type "list", data := .seq its'.toArray n' } := by
    rw [Heap.get?_update_self f ho (by rw [hf] <;> rfl), hf]
  refine I.write (x := p) (e := p) (by rw [h]; trivial) (.inl rfl) (fun b u hb q => (Heap.get?_update_other _ _ (Ne.symm hb)).trans q) ⟨_, e⟩ ?_
  exact ⟨hz, its', n', r, e⟩
def rSetL : V → V → V → Hp → (Hp → Prop) → Prop := fun o i v H Q => ∃ p xs k j, o = .ref p ∧ i = .int k ∧ H p = some (.lst xs) ∧ ixN xs.length k = some j ∧ Q (upd H p (.lst (xs.set j v)))
theorem set_list : PSet X rSetL := by
  intro pins s σ H o i v ov iv u Q I ro ri rv h
  obtain ⟨p, xs, k, j, rfl, rfl, hp, hj, q⟩ := h
  cases ro
  obtain ⟨t, rfl⟩ := ri
  obtain ⟨its, n, r, ho, hz⟩ := I.lst hp
  obtain ⟨h1, h2, h3, h4⟩ := ixN_seq hj
  have hl := r.length
  have hn := line63
  have I' : Inv X pins σ (upd H p (.lst (xs.set j v))) { s with heap := s.heap.update p (Obj.mapSeq (·.setIfInBounds j u)) } :=
    I.lstUpd hp ho (mapSeq_set its n j u) (r.set rv j) (by rw [List.length_set]; exact hz) s.toks
  by_cases h0 : 0 ≤ k
  · have hk : k.toNat = j := by
      rw [seqIndex_of h0 h4] at h1
      exact Option.some.inj h1
    exact PySem.W.ki_setAt ho h0 (by omega) (by rw [List.size_toArray, ← hl]; exact h4) (by rw [hk]; exact ⟨_, I', q⟩)
  · have hk : (k + (its.toArray.size : Int)).toNat = j := by
      rw [seqIndex_neg (by omega) h3] at h1
      rw [List.size_toArray, ← hl]
      exact Option.some.inj h1
    exact PySem.W.ki_setBack ho (by omega) (by rw [List.size_toArray, ← hl]; exact h3) (by omega) (by rw [hk]; exact ⟨_, I', q⟩)
theorem slice_bounds (lo hi : Option Int) (n : Nat) : (sliceBounds lo hi none n).1 = ((HT.sIx n 0 lo : Nat) : Int) ∧ (sliceBounds lo hi none n).2.1 = ((HT.sIx n n hi : Nat) : Int) ∧ (sliceBounds lo hi none n).2.2 = 1 := by
  refine ⟨?_, ?_, rfl⟩
  · cases lo with
    | none => simp [sliceBounds, HT.sIx]
    | some i =>
      simp only [sliceBounds, HT.sIx, Option.getD_none, show (1 : Int) > 0 by decide, if_true]
      by_cases h : i < 0
      · simp only [h, if_true] <;> omega
      · simp only [h, if_false] <;> omega
  · cases hi with
    | none => simp [sliceBounds, HT.sIx]
    | some i =>
      simp only [sliceBounds, HT.sIx, Option.getD_none, show (1 : Int) > 0 by decide, if_true]
      by_cases h : i < 0
      · simp only [h, if_true] <;> omega
      · simp only [h, if_false] <;> omega
theorem slicePick_cut (its : List Value) (lo hi : Option Int) : slicePick its.toArray lo hi none = ((its.drop (HT.sIx its.length 0 lo)).take (HT.sIx its.length its.length hi - HT.sIx its.length 0 lo)).toArray := by
  obtain ⟨h1, h2, h3⟩ := slice_bounds lo hi its.toArray.size
  unfold slicePick
  rw [h1, h2, h3]
  simp only [sliceRange_one, pick_run, List.size_toArray] <;> rfl
def rSlL (K : PySem.W.Frag) : V → Option Int → Option Int → Hp → VK → Prop := fun x lo hi H Q => ∃ a xs, x = .ref a ∧ SqL K H a xs ∧ ∀ p, H p = none → Q (.ref p) (upd H p (.lst (cutV xs lo hi)))
theorem sl_list : SlR X (rSlL X.K) := by
  intro pins s σ H x v vl vu lo hi sl Q I rx hs pl pu h
  obtain ⟨a, xs, rfl, hx, q⟩ := h
  cases rx
  obtain ⟨its, r, ht, hz⟩ := I.list hx
  have hlen := r.length
  refine ⟨"list", _, slot_list_getitem.lookup, ht.isList.typeIs, ?_⟩
  refine wpAny_getItem_list_slice ht.isList hs pl pu .none (by simp) ?_ (by rw [List.size_toArray] <;> omega)
  rw [slicePick_cut, ← hlen]
  refine ⟨.ref s.heap.objs.size, _, I.laid (t' := s.toks) (o := .lst (cutV xs lo hi)) (fun b ob q => Heap.get?_push_of_some _ q) (Nat.le_refl _) ?_, rfl, q _ (I.hok.fresh (Nat.le_refl _))⟩
  exact ⟨Nat.le_trans (cutV_length xs lo hi) hz, _, 0, (r.drop (HT.sIx xs.length 0 lo)).take (HT.sIx xs.length xs.length hi - HT.sIx xs.length 0 lo), Heap.get?_push_size _ rfl⟩
theorem call_len_seq : CallR X (.builtin "len") (fun xs H Q => ∃ p ys, xs = [.ref p] ∧ (SqL X.K H p ys ∨ SqT X.K H p ys) ∧ Q (.int ys.length) H) := by
  intro pins s σ H xs us Q I r h
  obtain ⟨p, ys, rfl, hq, q⟩ := h
  obtain ⟨u, rfl, rx⟩ := vals1 r
  cases rx
  have hn := line63
  rcases hq with hq | hq
  · obtain ⟨its, r', pl, hz⟩ := I.list hq
    have hlen := r'.length
    exact Calls.call_len_list pl.isList (by simp only [List.size_toArray] <;> omega) ⟨.int ys.length, H, I.tok _, ⟨s.toks + 1, by rw [List.size_toArray, hlen]⟩, q⟩
  · obtain ⟨its, r', pl, hz⟩ := I.tuple hq
    have hlen := r'.length
    exact len_tuple pl (by simp only [List.size_toArray] <;> omega) ⟨.int ys.length, H, I.tok _, ⟨s.toks + 1, by rw [List.size_toArray, hlen]⟩, q⟩
theorem call_list_of : CallR X (.type "list") (fun xs H Q => ∃ p ys, xs = [.ref p] ∧ (SqL X.K H p ys ∨ SqT X.K H p ys) ∧ ∀ l, H l = none → Q (.ref l) (upd H l (.lst ys))) := by
  intro pins s σ H xs us Q I r h
  obtain ⟨p, ys, rfl, hq, q⟩ := h
  obtain ⟨u, rfl, rx⟩ := vals1 r
  cases rx
  have fin : ∀ (its : List Value), Vals ys its → ys.length ≤ sizeLine → ∀ (h' : Heap) (c' : Nat), (∀ b o', s.heap.get? b = some o' → h'.get? b = some o') →
      h'.get? s.heap.objs.size = some { cls := .type "list", dict := none, data := .seq its.toArray c', slots := #[] } → EP X pins σ Q (.ref s.heap.objs.size) { s with heap := h' } := fun its r' hz h' c' kp e =>
    ⟨.ref s.heap.objs.size, _, I.laid (t' := s.toks) kp (Nat.le_refl _) (show ObjOk X.prog X.w _ h' _ (.lst ys) from ⟨hz, its, c', r', e⟩), rfl, q _ (I.hok.fresh (Nat.le_refl _))⟩
  rcases hq with hq | hq
  · obtain ⟨its, r', pl, hz⟩ := I.list hq
    have hlen := r'.length
    obtain ⟨o, ho, hc, n, hd⟩ := pl.isList
    exact call_list_seq p (.inl rfl) ho hc hd (fun h' c' kp e => fin its r' hz h' c' kp e) (by simp only [List.size_toArray] <;> omega)
  · obtain ⟨its, r', pl, hz⟩ := I.tuple hq
    have hlen := r'.length
    obtain ⟨o, ho, hc, n, hd⟩ := pl
    exact call_list_seq p (.inr rfl) ho hc hd (fun h' c' kp e => fin its r' hz h' c' kp e) (by simp only [List.size_toArray] <;> omega)
def tyV (K : PySem.W.Frag) (T : String) (x : V) (H : Hp) : Prop := match x with
  | .str _ => T = "str"
  | .int _ => T = "int"
  | .ref p => (T = "list" ∧ ∃ xs, SqL K H p xs) ∨ (T = "tuple" ∧ ∃ o, K.lookup p = some o ∧ o.cls = .type "tuple" ∧ o.dict = none) ∨
      (T = "dict" ∧ ((∃ kvs, H p = some (.dK kvs)) ∨ ∃ kvs, H p = some (.dT kvs))) ∨ (T = "set" ∧ ∃ S n, H p = some (.set S n))
  | _ => False
theorem tyV_is {pins : List (Addr × Obj)} {σ : St} {H : Hp} {s : Shared} {T : String} {x : V} {v : Value} (I : Inv X pins σ H s) (r : RelV x v) (ty : tyV X.K T x H) :
    s.TypeIs v T ∧ ∀ a, v = .ref a → ∃ ob, s.heap.get? a = some ob ∧ ob.dict = none := by
  cases x with
  | str z =>
    obtain ⟨t, rfl⟩ := r
    cases (show T = "str" from ty)
    exact ⟨typeIs_str s z t, fun _ e => nomatch e⟩
  | int i =>
    obtain ⟨t, rfl⟩ := r
    cases (show T = "int" from ty)
    exact ⟨typeIs_int s i t, fun _ e => nomatch e⟩
  | ref p =>
    cases r
    rcases ty with ⟨rfl, xs, hq⟩ | ⟨rfl, o, hk, hc, hd⟩ | ⟨rfl, hk⟩ | ⟨rfl, S, n, hk⟩
    · obtain ⟨its, _, pl, _⟩ := I.list hq
      refine ⟨pl.isList.typeIs, fun a e => ?_⟩
      cases e
      obtain ⟨o, n, e, c, hd, _⟩ := pl
      exact ⟨o, e, hd⟩
    · refine ⟨⟨o, I.kIn p o hk, hc⟩, fun a e => ?_⟩
      cases e
      exact ⟨o, I.kIn _ o hk, hd⟩
    · have z : ∃ o, s.heap.get? p = some o ∧ o.ExactDict := by
        rcases hk with ⟨kvs, hk⟩ | ⟨kvs, hk⟩
        · obtain ⟨_, _, _, _, o, _, _, e, ex, _⟩ := I.hok p _ hk
          exact ⟨o, e, ex⟩
        · obtain ⟨_, _, _, _, o, _, _, e, ex, _⟩ := I.hok p _ hk
          exact ⟨o, e, ex⟩
      obtain ⟨o, e, ex⟩ := z
      refine ⟨⟨o, e, ex.1⟩, fun a e2 => ?_⟩
      cases e2
      exact ⟨o, e, ex.2.1⟩
    · obtain ⟨o, _, _, _, e, ex, _⟩ := I.hok p _ hk
      refine ⟨⟨o, e, ex.1⟩, fun a e2 => ?_⟩
      cases e2
      exact ⟨o, e, ex.2.1⟩
  | _ => exact False.elim ty
def tBM (K : PySem.W.Frag) (T : String) (r : V → List V → Hp → VK → Prop) (to : TE) (t : TA) : TE := fun σ H Q => to σ H fun x H1 => tyV K T x H1 ∧ t σ H1 fun xs H2 => r x xs H2 Q
variable {o e : Expr} {es : List Expr} {to : TE} {t : TA} {name : Str} {apos cpos : Pos} {T id : String} {r : V → List V → Hp → VK → Prop}
theorem pe_bm (pa : PlainAttrs T) (slot : Slot T name id) (hty : typeOf (.builtin id) = pure (.type "method_descriptor")) (hm : MtR X id r) (ho : PE X o to) (ha : PA X (e :: es) t)
    (hbase : attributeBase o name X.env (eval o X.env) = eval o X.env := by rfl)
    (hfew : ((backTo cpos (starEach (e :: es) X.env)).all (fun x => !x.1) && (backToKw cpos (keywordEach [] X.env)).all (fun x => x.1.isSome)
      && decide ((e :: es).length + ([] : List Keyword).length + (if ([] : List Keyword).isEmpty then 0 else 1) < 30)) = true := by rfl)
    (hline : (apos.endLine == cpos.line) = true := by rfl) (hs : starEach (e :: es) X.env = (false, eval e X.env) :: starEach es X.env := by rfl) (hplain : (backTo cpos (starEach es X.env)).any (·.1) = false := by rfl) :
    PE X (.Call (.Attribute o name apos) (e :: es) [] cpos) (tBM X.K T r to t) := by
  intro pins s σ H Q I h
  refine wpAny_Call_method_late hbase hfew hline rfl (thn (ho pins s σ H _ I h) fun v s1 ⟨x, H1, I1, r1, ty, q1⟩ => ?_)
  obtain ⟨h1, h2⟩ := tyV_is I1 r1 ty
  refine ⟨T, id, pa, slot, hty, h1, h2, ?_⟩
  have hA := ha cpos pins s1 σ H1 _ I1 q1
  rw [hs] at hA ⊢
  refine Calls.callWith_builtin (by show (false || (backTo cpos (starEach es X.env)).any (·.1)) = false; rw [hplain] <;> rfl) (Calls.evalArgs_plain ?_)
  exact thn hA fun us s2 ⟨vs, H2, I2, r2, q2⟩ => hm pins s2 σ H2 x vs v us Q I2 r1 r2 q2
end
end L2
namespace L2
open PySem PySem.Spec PyProof.Rows
def MtM (X : Cx) (id : String) (r : V → List V → Hp → VK → Prop) : Prop :=
  ∀ (pins : List (Addr × Obj)) (s : Shared) (σ : St) (H : Hp) (x : V) (xs : List V) (v : Value) (us : List Value) (Q : VK), Inv X pins σ H s → RelV x v → Vals xs us → r x xs H Q →
    wpAny (model X.prog X.w) X.A (call (.builtin id) (v :: us)) (EP X pins σ Q) X.xe s
theorem Vals.one : ∀ {x : V} {us : List Value}, Vals [x] us → ∃ u, us = [u] ∧ RelV x u
  | _, _, .cons r .nil => ⟨_, rfl, r⟩
theorem Vals.rep {xs : List V} {us : List Value} (h : Vals xs us) : ∀ k : Nat, Vals (List.replicate k xs).flatten (List.replicate k us).flatten
  | 0 => .nil
  | k + 1 => by
    rw [List.replicate_succ, List.replicate_succ, List.flatten_cons, List.flatten_cons]
    exact Vals.append h (Vals.rep h k)
theorem foldl_rep (its : List Value) : ∀ (k : Nat) (acc : List Value),
    List.foldl (fun x1 x2 => x1 ++ x2) acc.toArray (List.replicate k its.toArray) = (acc ++ (List.replicate k its).flatten).toArray
  | 0, acc => by simp
  | k + 1, acc => by
    have e : acc.toArray ++ its.toArray = (acc ++ its).toArray := by simp
    have e2 : (acc ++ its) ++ (List.replicate k its).flatten = acc ++ (List.replicate (k + 1) its).flatten := by
      rw [List.replicate_succ, List.flatten_cons, List.append_assoc]
    rw [← e2, ← foldl_rep its k (acc ++ its), ← e, List.replicate_succ, List.foldl_cons]
section
variable {X : Cx} {pins : List (Addr × Obj)} {σ : St} {H : Hp} {s : Shared} {l b : Addr} {xs ys zs : List V}
theorem Inv.lset {its its' : List Value} {n : Nat} {f : Array Value → Array Value} {t' : Nat} (I : Inv X pins σ H s) (hH : H l = some (.lst xs))
    (e : s.heap.get? l = some { cls := .type "list", data := .seq its.toArray n }) (hf : f its.toArray = its'.toArray) (hv : Vals ys its') (hz : ys.length ≤ sizeLine) :
    Inv X pins σ (upd H l (.lst ys)) { s with heap := s.heap.update l (Obj.mapSeq f), toks := t' } := by
  have q := PySem.IsL.update e f
  rw [hf] at q
  refine I.write (x := l) (e := l) (by rw [hH]; exact trivial) (.inl rfl) (fun b' u hb hu => (Heap.get?_update_other s.heap (Obj.mapSeq f) (Ne.symm hb)).trans hu) ⟨_, q⟩ ?_
  exact ⟨hz, its', _, hv, q⟩
theorem Inv.lnew {its : List Value} {t' : Nat} (I : Inv X pins σ H s) (hv : Vals ys its) (hz : ys.length ≤ sizeLine) :
    Inv X pins σ (upd H s.heap.objs.size (.lst ys)) { s with heap := s.heap.push { cls := .type "list", data := .seq its.toArray }, toks := t' } :=
  I.laid (fun _ _ q => Heap.get?_push_of_some _ q) (Nat.le_refl _) ⟨hz, its, 0, hv, Heap.get?_push_size _ rfl⟩
theorem Inv.fresh (I : Inv X pins σ H s) : H s.heap.objs.size = none := I.hok.fresh (Nat.le_refl _)
theorem Inv.lstM (I : Inv X pins σ H s) (hH : H l = some (.lst xs)) : xs.length ≤ sizeLine ∧ ∃ (its : List Value) (n : Nat), Vals xs its ∧ xs.length = its.length ∧ s.heap.get? l = some { cls := .type "list", data := .seq its.toArray n } := by
  obtain ⟨z, its, n, r, e⟩ := I.hok l _ hH
  exact ⟨z, its, n, r, r.length, e⟩
theorem notLongL {n : Nat} (h : n ≤ sizeLine) : Builtin.List.listTooLong n = false := by
  unfold Builtin.List.listTooLong
  exact decide_eq_false (by omega)
end
section
variable {X : Cx}
def rAppend : V → List V → Hp → VK → Prop := fun x vs H Q => ∃ l xs y, x = .ref l ∧ vs = [y] ∧ H l = some (.lst xs) ∧ xs.length < sizeLine ∧ Q .non (upd H l (.lst (xs ++ [y])))
theorem mt_append : MtM X "list.append" rAppend := by
  intro pins s σ H x vs v us Q I rx rv h
  obtain ⟨l, xs, y, rfl, rfl, hH, hz, q⟩ := h
  cases rx
  obtain ⟨u, rfl, ru⟩ := rv.one
  obtain ⟨z, its, n, r, hl, e⟩ := I.lstM hH
  refine call_meets F.slot_list_append ⟨_, e, rfl⟩ F.entry_list_append (F.args_list_append_2 _ _) (PySem.list_append l its.toArray n u (by rw [List.size_toArray]; omega)) ⟨e, ?_⟩
  refine ⟨.non, _, I.lset (its' := its ++ [u]) hH e (by simp) (r.append (.cons ru .nil)) ?_, rfl, q⟩
  rw [List.length_append, List.length_singleton]
  omega
def rExtend : V → List V → Hp → VK → Prop := fun x vs H Q => ∃ l b xs zs, x = .ref l ∧ vs = [.ref b] ∧ H l = some (.lst xs) ∧ H b = some (.lst zs) ∧ xs.length + zs.length ≤ sizeLine ∧ Q .non (upd H l (.lst (xs ++ zs)))
theorem mt_extend : MtM X "list.extend" rExtend := by
  intro pins s σ H x vs v us Q I rx rv h
  obtain ⟨l, b, xs, zs, rfl, rfl, hH, hB, hz, q⟩ := h
  cases rx
  obtain ⟨u, rfl, ru⟩ := rv.one
  cases ru
  obtain ⟨z, its, n, r, hl, e⟩ := I.lstM hH
  obtain ⟨z2, its2, n2, r2, hl2, e2⟩ := I.lstM hB
  have hsz : its.toArray.size + its2.toArray.size ≤ sizeLine := by rw [List.size_toArray, List.size_toArray]; omega
  have hlong : ¬ (!its.toArray.isEmpty && Builtin.List.listTooLong (its.toArray.size + its2.toArray.size)) = true := by
    rw [notLongL hsz, Bool.and_false]
    exact Bool.false_ne_true
  refine call_meets F.slot_list_extend ⟨_, e, rfl⟩ F.entry_list_extend (F.args_list_extend_2 _ _)
    (AutoSeq1.list_extend_list_list_0 l its.toArray n b its2.toArray n2 hlong (by rw [List.size_toArray]; omega) (by omega)) ⟨e, e2, ?_⟩
  refine ⟨.non, _, I.lset (its' := its ++ its2) hH e (by simp) (r.append r2) ?_, rfl, q⟩
  rw [List.length_append]
  omega
def rCat : R2 := fun x y H Q => ∃ l b xs zs, x = .ref l ∧ y = .ref b ∧ H l = some (.lst xs) ∧ H b = some (.lst zs) ∧ xs.length + zs.length ≤ sizeLine ∧ ∀ p, H p = none → Q (.ref p) (upd H p (.lst (xs ++ zs)))
theorem op_cat : OpR X (binaryOp .Add) rCat := by
  intro pins s σ H x y v u Q I rx ry h
  obtain ⟨l, b, xs, zs, rfl, rfl, hH, hB, hz, q⟩ := h
  cases rx
  cases ry
  obtain ⟨z, its, n, r, hl, e⟩ := I.lstM hH
  obtain ⟨z2, its2, n2, r2, hl2, e2⟩ := I.lstM hB
  refine PySem.P.add_list e e2 ?_ (by rw [List.size_toArray, List.size_toArray]; omega)
  have ea : its.toArray ++ its2.toArray = (its ++ its2).toArray := by simp
  rw [ea]
  exact ⟨.ref _, _, I.lnew (t' := s.toks) (r.append r2) (by rw [List.length_append]; omega), rfl, q _ I.fresh⟩
def rRep : R2 := fun x y H Q => ∃ l k xs, x = .ref l ∧ y = .int k ∧ H l = some (.lst xs) ∧ -(2 ^ 63) ≤ k ∧ k < 2 ^ 63 ∧ xs.length * k.toNat ≤ sizeLine ∧
  ∀ p, H p = none → Q (.ref p) (upd H p (.lst (List.replicate k.toNat xs).flatten))
theorem len_rep {α : Type} (xs : List α) (k : Nat) : (List.replicate k xs).flatten.length = k * xs.length := by
  induction k with
  | zero => simp
  | succ k ih => rw [List.replicate_succ, List.flatten_cons, List.length_append, ih, Nat.succ_mul, Nat.add_comm]
theorem op_rep : OpR X (binaryOp .Mult) rRep := by
  intro pins s σ H x y v u Q I rx ry h
  obtain ⟨l, k, xs, rfl, rfl, hH, h1, h2, hz, q⟩ := h
  cases rx
  obtain ⟨t, rfl⟩ := ry
  obtain ⟨z, its, n, r, hl, e⟩ := I.lstM hH
  have hlen : its.toArray.size * k.toNat ≤ sizeLine := by rw [List.size_toArray, ← hl]; exact hz
  have hcap : ¬ its.toArray.size * k.toNat > (2 ^ 63 - 1) / 8 := by
    have : (sizeLine : Nat) ≤ (2 ^ 63 - 1) / 8 := by decide
    omega
  have hfit : ¬ (!Builtin.List.listFitsIndex k) = true := by
    rw [fitsIndex_both h1 h2]
    exact Bool.false_ne_true
  have hlong : ¬ Builtin.List.listTooLong (its.toArray.size * k.toNat) = true := by
    rw [notLongL hlen]
    exact Bool.false_ne_true
  have hnew : List.foldl (fun x1 x2 => x1 ++ x2) #[] (List.replicate (if its.toArray.isEmpty = true then 0 else k.toNat) its.toArray) = (List.replicate k.toNat its).flatten.toArray := by
    have f0 : ∀ m : Nat, List.foldl (fun x1 x2 => x1 ++ x2) #[] (List.replicate m its.toArray) = (List.replicate m its).flatten.toArray := fun m => by
      have := foldl_rep its m []
      rw [List.nil_append] at this
      exact this
    rw [f0]
    cases its with
    | nil => simp
    | cons a r' => rw [if_neg (by simp)]
  refine wpAny_binaryOp_repeat_ref (T := "list") (U := "int") (by decide) ⟨_, e, rfl⟩ (fun s' => typeIs_int s' k t) noFill_list_mul F.fills_int_mul F.slot_int_rmul repeat_list F.slot_int_index.lookup
    (call_meets F.slot_int_rmul (typeIs_int s k t) F.entry_int_rmul (F.args_int_rmul_2 _ _) (int___rmul___int_list k t l its.toArray n)
      ⟨e, rfl, ⟨_, e, rfl⟩, call_meets F.slot_list_mul ⟨_, e, rfl⟩ F.entry_list_mul (F.args_list_mul_2 _ _) (AutoListH.list___mul___list_int_3 l its.toArray n k t hfit hcap hlong) ⟨e, ?_⟩⟩)
  rw [hnew]
  exact ⟨.ref _, _, I.lnew (t' := s.toks) (r.rep k.toNat) (by rw [len_rep, Nat.mul_comm]; exact hz), rfl, q _ I.fresh⟩
end
section
variable {prog : Program} {w : World} {A : Around} {E : Value → Shared → Prop} {s : Shared}
set_option maxRecDepth 100000 in
end
end L2
namespace L2
open PySem PySem.Spec PyProof.Rows
theorem Vals.ints : ∀ {ns : List Int} {us : List Value}, Vals (ns.map V.int) us → IntsAre us ns
  | [], us, h => by
    rw [List.map_nil] at h
    cases h
    exact IntsAre.nil
  | n :: ns, us, h => by
    rw [List.map_cons] at h
    cases h with
    | cons r t =>
      obtain ⟨k, rfl⟩ := r
      exact IntsAre.cons n k (Vals.ints t)
theorem vals_of_ints : ∀ {us : List Value} {ns : List Int}, IntsAre us ns → Vals (ns.map V.int) us
  | _, _, .nil => by rw [List.map_nil]; exact Paired.nil
  | _, _, .cons n t h => by rw [List.map_cons]; exact Paired.cons (show RelV (V.int n) (Value.int n t) from ⟨t, rfl⟩) (vals_of_ints h)
theorem Vals.ref1 {a : Addr} {us : List Value} (r : Vals [V.ref a] us) : us = [Value.ref a] := by
  cases r with
  | cons r t =>
    cases t
    cases r
    rfl
section
variable {prog : Program} {w : World} {A : Around} {E : Value → Shared → Prop} {s : Shared} {l : Addr} {its : List Value} {ns : List Int} {Q : Value → Shared → Prop}
theorem sum_raw (hh : A.handled = none) (hl : s.heap.IsList l its.toArray) (hi : IntsAre its ns)
    (h : ∀ h' tk t', (∀ b o, s.heap.get? b = some o → h'.get? b = some o) → Q (.int ns.sum t') { s with heap := h', toks := tk }) : wpAny (model prog w) A (call (.builtin "sum") [.ref l]) Q E s := by
  obtain ⟨xs, e⟩ := hi.allInts.items
  have hn : numsOf (intItems xs).toList = ns := by rw [← e]; exact hi.numsOf
  rw [nums_intItems] at hn
  rw [e] at hl
  refine PySem.sum_intListG hh hl fun h' tk t' hk => ?_
  have := h h' tk t' hk
  rw [preSum_eq, List.take_of_length_le (by simp), hn]; exact this
theorem min_raw (hh : A.handled = none) (hl : s.heap.IsList l its.toArray) (hi : IntsAre its ns) (hne : 0 < ns.length)
    (h : ∀ h' tk M t', (∀ b o, s.heap.get? b = some o → h'.get? b = some o) → M ∈ ns → (∀ a, a ∈ ns → M ≤ a) → Q (.int M t') { s with heap := h', toks := tk }) : wpAny (model prog w) A (call (.builtin "min") [.ref l]) Q E s := by
  obtain ⟨xs, e⟩ := hi.allInts.items
  have hn : numsOf (intItems xs).toList = ns := by rw [← e]; exact hi.numsOf
  rw [nums_intItems] at hn
  subst hn
  rw [e] at hl
  have hsz : 0 < xs.size := by simpa using hne
  refine PySem.min_intList hh hl hsz fun v h' tk hv hk => ?_
  obtain ⟨t, rfl⟩ := intItems_at hv
  obtain ⟨h1, h2⟩ := argBest_lt (numAt xs) (xs.size - 1)
  refine h h' tk _ t hk ?_ fun a ha => ?_
  · rw [numAt_eq]; exact PySem.getD_mem (by rw [List.length_map, Array.length_toList]; omega)
  · obtain ⟨j, hj, rfl⟩ := mem_getD ha
    rw [List.length_map, Array.length_toList] at hj
    rw [← numAt_eq]; exact h2 j (by omega)
end
section
variable {X : Cx}
def rSum (K : PySem.W.Frag) : List V → Hp → VK → Prop := fun vs H Q => ∃ (a : Addr) (ns : List Int), vs = [V.ref a] ∧ SqL K H a (ns.map V.int) ∧ Q (.int ns.sum) H
def rMin (K : PySem.W.Frag) : List V → Hp → VK → Prop := fun vs H Q => ∃ (a : Addr) (ns : List Int), vs = [V.ref a] ∧ SqL K H a (ns.map V.int) ∧ 0 < ns.length ∧ ∀ m, m ∈ ns → (∀ y, y ∈ ns → m ≤ y) → Q (.int m) H
theorem cr_sum (hc : X.calm = true) : CallR X (.builtin "sum") (rSum X.K) := by
  intro pins s σ H vs us Q I r h
  obtain ⟨a, ns, rfl, hs, q⟩ := h
  obtain ⟨its, rv, hl, _⟩ := I.list hs
  rw [Vals.ref1 r]
  exact sum_raw (I.ok.hd hc) hl.isList rv.ints fun h' tk t' hk => ⟨.int _, H, I.kept hk, ⟨_, rfl⟩, q⟩
theorem cr_min (hc : X.calm = true) : CallR X (.builtin "min") (rMin X.K) := by
  intro pins s σ H vs us Q I r h
  obtain ⟨a, ns, rfl, hs, hne, q⟩ := h
  obtain ⟨its, rv, hl, _⟩ := I.list hs
  rw [Vals.ref1 r]
  exact min_raw (I.ok.hd hc) hl.isList rv.ints hne fun h' tk m t' hk h1 h2 => ⟨.int _, H, I.kept hk, ⟨_, rfl⟩, q m h1 h2⟩
theorem small64 {n : Nat} (h : n < 64) : n ≤ sizeLine := by rw [sizeLine_eq]; omega
end
end L2
namespace L2
open PySem PySem.Spec PyProof.Rows
abbrev CellAt (h : Heap) (c : Addr) (v : Option Value) : Prop := h.IsCell c v
def relS (scope sc : Scope) : Scope :=
  { scope with names := scope.names.map fun (n, k) => if (k == .free && sc.kind == .function && sc.names.lookup n == some .cell) then (n, .cell) else (n, k) }
def cloFrom (cells : List (Str × Addr)) : List (Str × NameKind) → List (Str × Addr) → List (Str × Addr)
  | [], acc => acc
  | (n, k) :: r, acc => if k == .free then cloFrom cells r ((n, (cells.lookup n).getD 0) :: acc) else cloFrom cells r acc
theorem closure_loop (env : Env) (f : Str × NameKind → List (Str × Addr) → Sem (ForInStep (List (Str × Addr))))
    (hf : ∀ n k c, f (n, k) c = if k == .free then (do let a ← cellOf env n; pure (.yield ((n, a) :: c))) else pure (.yield c)) :
    ∀ (names : List (Str × NameKind)) (acc : List (Str × Addr)), (∀ y ∈ names, y.2 = .free → ∃ c, env.cells.lookup y.1 = some c) → forIn names acc f = pure (cloFrom env.cells names acc)
  | [], acc, _ => by rw [List.forIn_nil]; rfl
  | (n, k) :: r, acc, h => by
    rw [List.forIn_cons, hf]
    have ih := fun acc => closure_loop env f hf r acc fun y hy => h y (List.mem_cons_of_mem _ hy)
    unfold cloFrom
    by_cases hk : (k == NameKind.free) = true
    · rw [if_pos hk, if_pos hk]
      obtain ⟨c, hc⟩ := h (n, k) List.mem_cons_self (by simpa using hk)
      have e : cellOf env n = pure c := by unfold cellOf; rw [hc]
      rw [e]
      have e2 : (env.cells.lookup n).getD 0 = c := by rw [hc]; rfl
      rw [e2]
      exact ih _
    · rw [if_neg hk, if_neg hk]
      exact ih _
theorem closure_ok {scope : Scope} {env : Env} (h : ∀ y ∈ scope.names, y.2 = .free → ∃ c, env.cells.lookup y.1 = some c) : closureFor scope env = pure (cloFrom env.cells scope.names []) := by
  simp only [closureFor]
  rw [closure_loop env _ (fun n k c => rfl) scope.names [] h]
  rfl
theorem mem_lookup {α : Type} : ∀ {l : List (Str × α)} {n : Str} {c : α}, (n, c) ∈ l → ∃ c', l.lookup n = some c'
  | (k, v) :: r, n, c, h => by
    rw [List.lookup_cons]
    cases hb : n == k with
    | true => exact ⟨_, rfl⟩
    | false =>
      rcases List.mem_cons.mp h with e | h
      · cases e; simp at hb
      · exact mem_lookup h
theorem cloFrom_mem {cells : List (Str × Addr)} : ∀ {names : List (Str × NameKind)} {acc : List (Str × Addr)} {n : Str} {c : Addr}, (n, c) ∈ cloFrom cells names acc → (n, c) ∈ acc ∨ ((n, .free) ∈ names ∧ c = (cells.lookup n).getD 0)
  | [], _, _, _, h => .inl h
  | (m, k) :: r, acc, n, c, h => by
    unfold cloFrom at h
    split at h
    · rename_i hk
      have hk : k = .free := by simpa using hk
      rcases cloFrom_mem h with h | ⟨h1, h2⟩
      · rcases List.mem_cons.mp h with e | h
        · cases e; exact .inr ⟨hk ▸ List.mem_cons_self, rfl⟩
        · exact .inl h
      · exact .inr ⟨List.mem_cons_of_mem _ h1, h2⟩
    · rcases cloFrom_mem h with h | ⟨h1, h2⟩
      · exact .inl h
      · exact .inr ⟨List.mem_cons_of_mem _ h1, h2⟩
theorem cloFrom_acc {cells : List (Str × Addr)} : ∀ {names : List (Str × NameKind)} {acc : List (Str × Addr)} {p : Str × Addr}, p ∈ acc → p ∈ cloFrom cells names acc
  | [], _, _, h => h
  | (m, k) :: r, acc, p, h => by
    unfold cloFrom
    split
    · exact cloFrom_acc (List.mem_cons_of_mem _ h)
    · exact cloFrom_acc h
theorem cloFrom_has {cells : List (Str × Addr)} : ∀ {names : List (Str × NameKind)} {acc : List (Str × Addr)} {n : Str}, (n, .free) ∈ names → (n, (cells.lookup n).getD 0) ∈ cloFrom cells names acc
  | (m, k) :: r, acc, n, h => by
    unfold cloFrom
    rcases List.mem_cons.mp h with e | h
    · cases e
      exact cloFrom_acc List.mem_cons_self
    · split
      · exact cloFrom_has h
      · exact cloFrom_has h
theorem cells_mem : ∀ {names : List (Str × NameKind)} {h : Heap} {acc : List (Str × Addr)} {x : Str} {c : Addr}, (x, c) ∈ cellsFrom h.objs.size names acc →
    (x, c) ∈ acc ∨ ((x, .cell) ∈ names ∧ h.objs.size ≤ c ∧ CellAt (pushCells h names) c none)
  | [], _, _, _, _, h => .inl h
  | (n, k) :: r, h, acc, x, c, hm => by
    unfold cellsFrom at hm
    unfold pushCells
    split at hm
    · rename_i hk
      rw [if_pos hk]
      have hk : k = .cell := by simpa using hk
      rw [← Heap.size_push h { cls := .type "cell", data := .cell none }] at hm
      rcases cells_mem hm with hm | ⟨h1, h2, h3⟩
      · rcases List.mem_cons.mp hm with e | hm
        · cases e
          exact .inr ⟨hk ▸ List.mem_cons_self, Nat.le_refl _, _, pushCells_keeps r _ _ _ (Heap.get?_push_size _ rfl), rfl⟩
        · exact .inl hm
      · rw [Heap.size_push] at h2
        exact .inr ⟨List.mem_cons_of_mem _ h1, Nat.le_of_succ_le h2, h3⟩
    · rename_i hk
      rw [if_neg hk]
      rcases cells_mem hm with hm | ⟨h1, h2, h3⟩
      · exact .inl hm
      · exact .inr ⟨List.mem_cons_of_mem _ h1, h2, h3⟩
theorem cells_acc : ∀ {names : List (Str × NameKind)} {n : Nat} {acc : List (Str × Addr)} {p : Str × Addr}, p ∈ acc → p ∈ cellsFrom n names acc
  | [], _, _, _, h => h
  | (m, k) :: r, n, acc, p, h => by
    unfold cellsFrom
    split
    · exact cells_acc (List.mem_cons_of_mem _ h)
    · exact cells_acc h
theorem cells_has : ∀ {names : List (Str × NameKind)} {n : Nat} {acc : List (Str × Addr)} {x : Str}, (x, .cell) ∈ names → ∃ c, (x, c) ∈ cellsFrom n names acc
  | (m, k) :: r, n, acc, x, h => by
    unfold cellsFrom
    rcases List.mem_cons.mp h with e | h
    · cases e
      exact ⟨n, cells_acc List.mem_cons_self⟩
    · split
      · exact cells_has h
      · exact cells_has h
theorem cells_inj : ∀ {names : List (Str × NameKind)} {h : Heap} {acc : List (Str × Addr)} {x y : Str} {c : Addr}, (∀ p ∈ acc, p.2 < h.objs.size) → (∀ x y c, (x, c) ∈ acc → (y, c) ∈ acc → x = y) →
    (x, c) ∈ cellsFrom h.objs.size names acc → (y, c) ∈ cellsFrom h.objs.size names acc → x = y
  | [], _, _, _, _, _, _, hi, h1, h2 => hi _ _ _ h1 h2
  | (n, k) :: r, h, acc, x, y, c, hl, hi, h1, h2 => by
    unfold cellsFrom at h1 h2
    split at h1
    · rename_i hk
      rw [if_pos hk] at h2
      rw [← Heap.size_push h { cls := .type "cell", data := .cell none }] at h1 h2
      refine cells_inj (h := h.push _) (fun p hp => ?_) (fun x y c a b => ?_) h1 h2
      · rw [Heap.size_push]
        rcases List.mem_cons.mp hp with rfl | hp
        · exact Nat.lt_succ_self _
        · exact Nat.lt_succ_of_lt (hl p hp)
      · rcases List.mem_cons.mp a with e | a <;> rcases List.mem_cons.mp b with e' | b
        · cases e; cases e'; rfl
        · cases e; exact absurd (hl _ b) (Nat.lt_irrefl _)
        · cases e'; exact absurd (hl _ a) (Nat.lt_irrefl _)
        · exact hi _ _ _ a b
    · rename_i hk
      rw [if_neg hk] at h2
      exact cells_inj hl hi h1 h2
theorem newEnv_comp {M : Model} {A : Around} {E : Value → Shared → Prop} {s : Shared} {scope : Scope} {globals : Addr} {closure : List (Str × Addr)} {qual : Str} {func : Option Addr} {code : Value} {around : Env} {builtins : Addr} {Q : Env → Shared → Prop}
    (h : Q (newEnv scope s.heap.objs.size globals (cellsFrom (s.heap.objs.size + 1) scope.names closure) qual func code (some around) builtins)
      { s with heap := pushCells (s.heap.push { cls := .type "dict", data := .dict #[] }) scope.names }) :
    wpAny M A (newFunctionEnv scope globals closure [] qual func code (some around) builtins) Q E s := by
  simp only [newFunctionEnv, Option.isSome_some, if_true]
  refine wpAny_bind (wpAny_alloc ?_)
  refine wpAny_bind (wpAny_layCells _ (fun n k c => rfl) scope.names closure _ _ ?_)
  rw [show ({ s with heap := s.heap.push { cls := .type "dict", data := .dict #[] } } : Shared).heap.objs.size = s.heap.objs.size + 1 from Heap.size_push ..]
  rw [List.forIn_nil]
  exact wpAny_bind (wpAny_pure (wpAny_pure h))
theorem lookup_relS {sc : Scope} : ∀ {names : List (Str × NameKind)} {x : Str} {k : NameKind},
    (names.map fun (n, k) => if (k == NameKind.free && sc.kind == .function && sc.names.lookup n == some .cell) then (n, NameKind.cell) else (n, k)).lookup x = some k →
    ∃ k', names.lookup x = some k' ∧ (k = k' ∨ (k' = .free ∧ k = .cell))
  | [], _, _, h => by simp at h
  | (n, k₀) :: r, x, k, h => by
    have ih := @lookup_relS sc r x k
    have h' : List.lookup x ((if (k₀ == NameKind.free && sc.kind == .function && sc.names.lookup n == some .cell) = true then (n, NameKind.cell) else (n, k₀)) :: (r.map _)) = some k := h
    cases hx : x == n with
    | true =>
      simp only [List.lookup_cons, hx]
      by_cases hc : (k₀ == NameKind.free && sc.kind == .function && sc.names.lookup n == some .cell) = true
      · rw [if_pos hc] at h'
        simp only [List.lookup_cons, hx] at h'
        cases h'
        simp only [Bool.and_eq_true, beq_iff_eq] at hc
        exact ⟨k₀, rfl, .inr ⟨hc.1.1, rfl⟩⟩
      · rw [if_neg hc] at h'
        simp only [List.lookup_cons, hx] at h'
        cases h'
        exact ⟨_, rfl, .inl rfl⟩
    | false =>
      simp only [List.lookup_cons, hx]
      by_cases hc : (k₀ == NameKind.free && sc.kind == .function && sc.names.lookup n == some .cell) = true
      · rw [if_pos hc] at h'
        simp only [List.lookup_cons, hx] at h'
        exact ih h'
      · rw [if_neg hc] at h'
        simp only [List.lookup_cons, hx] at h'
        exact ih h'
structure BlkOk (N : List Str) (sc scope : Scope) (own : List (Str × Nat)) : Prop where
  kind : scope.kind = .function
  uniq : ∀ y ∈ scope.names, scope.names.lookup y.1 = some y.2
  ix : ∀ p ∈ own, N[p.2]? = some p.1
  free : ∀ y ∈ scope.names, y.2 = .free → sc.names.lookup y.1 = some .cell ∨ sc.names.lookup y.1 = some .free
  own : ∀ y ∈ scope.names, y.2 = .local ∨ y.2 = .cell → y.1 ∈ own.map (·.1) ∨ y.1 ∉ N
def wipe (σ : St) : List Nat → St
  | [] => σ
  | v :: vs => (wipe σ vs).set v none
theorem wipe_length (σ : St) : ∀ vs : List Nat, (wipe σ vs).length = σ.length
  | [] => rfl
  | v :: vs => by unfold wipe; rw [List.length_set, wipe_length σ vs]
theorem wipe_some {σ : St} {i : Nat} {x : V} : ∀ {vs : List Nat}, (wipe σ vs)[i]? = some (some x) → σ[i]? = some (some x) ∧ i ∉ vs
  | [], h => ⟨h, by simp⟩
  | v :: vs, h => by
    unfold wipe at h
    by_cases hi : v = i
    · subst hi
      by_cases hv : v < (wipe σ vs).length
      · rw [List.getElem?_set_self hv] at h; cases h
      · rw [List.getElem?_eq_none (by simpa using hv)] at h; cases h
    · rw [List.getElem?_set_ne hi] at h
      obtain ⟨h1, h2⟩ := wipe_some h
      exact ⟨h1, by simp only [List.mem_cons, not_or]; exact ⟨fun e => hi e.symm, h2⟩⟩
abbrev Cx.blk (X : Cx) (s : Shared) (H : Hp) (scope : Scope) (cenv : Env) (fp : List Addr) : Cx := { X with s_0 := s, H_0 := H, env := cenv, outer := X.stack, ex := fp, fn := fun x => scope.names.lookup x == some .cell, pn := [], xe := fun _ _ => False }
section
variable {X : Cx} {pins : List (Addr × Obj)} {σ : St} {H : Hp} {s : Shared}
theorem block_start {scope : Scope} {own : List (Str × Nat)} {fp : List Addr} (I : Inv X pins σ H s) (ok : BlkOk X.N X.env.scope scope own) (hN : X.N.Nodup) (hfp : ∀ b ∈ fp, FpOk X pins H b ∧ b < s.heap.objs.size) :
    Inv (X.blk s H scope (compEnvC scope (cellsFrom (s.heap.objs.size + 1) scope.names (cloFrom X.env.cells scope.names [])) s.heap.objs.size X.env) fp) [] (wipe σ (own.map (·.2))) H { s with heap := pushCells (s.heap.push { cls := .type "dict", data := .dict #[] }) scope.names } := by
  have hfree : ∀ y ∈ scope.names, y.2 = .free → ∃ c, X.env.cells.lookup y.1 = some c := fun y hy e => by
    rcases ok.free y hy e with k | k
    · exact I.ok.has _ (.inl k)
    · exact I.ok.has _ (.inr k)
  generalize hcenv : compEnvC scope (cellsFrom (s.heap.objs.size + 1) scope.names (cloFrom X.env.cells scope.names [])) s.heap.objs.size X.env = cenv
  have kp : ∀ b o, s.heap.get? b = some o → (pushCells (s.heap.push { cls := .type "dict", data := .dict #[] }) scope.names).get? b = some o := fun b o e => pushCells_keeps _ _ _ _ (Heap.get?_push_of_some _ e)
  have hL : cenv.locals = s.heap.objs.size := by rw [← hcenv]; rfl
  have hcl : cenv.cells = cellsFrom (s.heap.objs.size + 1) scope.names (cloFrom X.env.cells scope.names []) := by rw [← hcenv]; rfl
  have hsc : cenv.scope = relS scope X.env.scope := by rw [← hcenv]; rfl
  rw [← Heap.size_push s.heap { cls := .type "dict", data := .dict #[] }] at hcl
  have cm : ∀ {y c}, (y, c) ∈ cloFrom X.env.cells scope.names [] → X.env.cells.lookup y = some c ∧ c < s.heap.objs.size := fun {y c} hm => by
    rcases cloFrom_mem hm with hm | ⟨h1, rfl⟩
    · cases hm
    · obtain ⟨c, hc⟩ := hfree _ h1 rfl
      rw [hc]
      obtain ⟨w, z⟩ := I.cell _ _ hc
      exact ⟨rfl, z.lt⟩
  have mem : ∀ {y c}, cenv.cells.lookup y = some c → (X.env.cells.lookup y = some c ∧ c < s.heap.objs.size) ∨ (s.heap.objs.size + 1 ≤ c ∧ CellAt (pushCells (s.heap.push { cls := .type "dict", data := .dict #[] }) scope.names) c none) := fun {y c} e => by
    rw [hcl] at e
    rcases cells_mem (PySem.mem_of_lookup e) with hm | ⟨_, h2, h3⟩
    · exact .inl (cm hm)
    · rw [Heap.size_push] at h2; exact .inr ⟨h2, h3⟩
  have look : ∀ {y}, scope.names.lookup y = some .free → ∃ c, cenv.cells.lookup y = some c ∧ X.env.cells.lookup y = some c := fun {y} hl => by
    have hy : (y, NameKind.free) ∈ scope.names := PySem.mem_of_lookup hl
    obtain ⟨c', e'⟩ := mem_lookup (cells_acc (names := scope.names) (n := (s.heap.push { cls := .type "dict", data := .dict #[] }).objs.size) (cloFrom_has (cells := X.env.cells) (acc := []) hy))
    rw [← hcl] at e'
    refine ⟨c', e', ?_⟩
    rw [hcl] at e'
    rcases cells_mem (PySem.mem_of_lookup e') with hm | ⟨h1, _, _⟩
    · exact (cm hm).1
    · have := ok.uniq _ h1
      rw [hl] at this; cases this
  have okB : (X.blk s H scope cenv fp).Ok := by
    refine ⟨I.ok.mod, by show cenv.scope.kind = _; rw [hsc]; exact ok.kind, by show cenv.globals = _; rw [← hcenv]; exact I.ok.glob, by show cenv.builtins = _; rw [← hcenv]; exact I.ok.blt, by show s.heap.objs.size ≤ cenv.locals; rw [hL]; exact Nat.le_refl _,
      fun y z c e1 e2 => ?_, fun y hy => ?_, fun y c z e => ?_, I.ok.hd, I.ok.frames, .inl rfl, fun b hb => ⟨?_, fun y c e z => ?_⟩, I.bs, Nat.le_trans I.ok.bsz I.sz, fun b o e hb => ?_, fun b hb z => ?_, I.stack, I.stkFree⟩
    · have e1 : cenv.cells.lookup y = some c := e1
      have e2 : cenv.cells.lookup z = some c := e2
      rw [hcl] at e1 e2
      refine cells_inj (fun p hp => ?_) (fun y z c a b => I.ok.inj y z c (cm a).1 (cm b).1) (PySem.mem_of_lookup e1) (PySem.mem_of_lookup e2)
      rw [Heap.size_push]
      exact Nat.lt_succ_of_lt (cm (y := p.1) (c := p.2) hp).2
    · show ∃ c, cenv.cells.lookup y = some c
      have key : ∀ k, cenv.kindOf y = some k → (k = .cell ∨ k = .free) → ∃ c, cenv.cells.lookup y = some c := fun k hk hk' => by
        unfold Env.kindOf at hk
        rw [hsc] at hk
        obtain ⟨k', e, r⟩ := lookup_relS hk
        have : k' = .cell ∨ k' = .free := by
          rcases r with rfl | ⟨rfl, _⟩
          · exact hk'
          · exact .inr rfl
        rcases this with rfl | rfl
        · obtain ⟨c, hm⟩ := cells_has (n := (s.heap.push { cls := .type "dict", data := .dict #[] }).objs.size) (acc := cloFrom X.env.cells scope.names []) (PySem.mem_of_lookup e)
          obtain ⟨c', e'⟩ := mem_lookup hm
          exact ⟨c', by rw [hcl]; exact e'⟩
        · obtain ⟨c, h1, _⟩ := look e
          exact ⟨c, h1⟩
      rcases hy with hy | hy
      · exact key _ hy (.inl rfl)
      · exact key _ hy (.inr rfl)
    · have z : (scope.names.lookup y == some NameKind.cell) = true := z
      have z : scope.names.lookup y = some .cell := by simpa using z
      have e : cenv.cells.lookup y = some c := e
      rw [hcl] at e
      rcases cells_mem (PySem.mem_of_lookup e) with hm | ⟨_, h2, _⟩
      · rcases cloFrom_mem hm with hm | ⟨h1, _⟩
        · cases hm
        · have q := ok.uniq _ h1
          rw [z] at q; cases q
      · rw [Heap.size_push] at h2
        exact Nat.le_of_succ_le h2
    · show b ≠ cenv.locals
      rw [hL]; exact Nat.ne_of_lt (hfp b hb).2
    · have e : cenv.cells.lookup y = some c := e
      rcases mem e with ⟨h1, _⟩ | ⟨h1, _⟩
      · exact (hfp b hb).1.2.2.2.2.1 y c h1 z
      · have h2 : s.heap.objs.size + 1 ≤ b := by rw [← z]; exact h1
        exact absurd (Nat.lt_of_lt_of_le (hfp b hb).2 (Nat.le_of_succ_le h2)) (Nat.lt_irrefl _)
    · rcases (hfp b hb).1.2.2.2.1 with z | z
      · exact I.ok.noex b o e z
      · exact absurd (Nat.lt_of_lt_of_le (Heap.lt_size e) (Nat.le_trans I.ok.bsz z)) (Nat.lt_irrefl _)
    · rcases List.mem_cons.mp (I.stkSub b z) with z | z
      · exact (hfp b hb).1.2.1 z
      · exact (hfp b hb).1.2.2.1 z
  refine ⟨okB, rfl, I.bare, Un.kept kp, ⟨fun _ => none, ?_, fun i y av e1 e2 e3 => ?_⟩, fun y c e => ?_, ?_, fun y c e => ?_, fun p hp => ?_, I.hok.kept kp, by rw [wipe_length]; exact I.len⟩
  · show Heap.Ns _ cenv.locals _
    rw [hL]
    exact Heap.Ns.keeps (Heap.Ns.new ..) fun b o e => pushCells_keeps _ _ _ _ e
  · obtain ⟨e2, hne⟩ := wipe_some e2
    have hfr : scope.names.lookup y = some .free ∧ (cenv.kindOf y = some .cell ∨ cenv.kindOf y = some .free) := by
      have key : ∀ k, cenv.scope.names.lookup y = some k → k = .local ∨ k = .cell ∨ k = .free → scope.names.lookup y = some .free ∧ (cenv.kindOf y = some .cell ∨ cenv.kindOf y = some .free) := fun k hk hk' => by
        have hk0 := hk
        rw [hsc] at hk
        obtain ⟨k', e, r⟩ := lookup_relS hk
        have no : ¬ (k' = .local ∨ k' = .cell) := fun hh => by
          rcases ok.own _ (PySem.mem_of_lookup e) hh with e' | e'
          · obtain ⟨p, hp, hpy⟩ := List.mem_map.mp e'
            have e3 := ok.ix p hp
            have : p.1 = y := hpy
            rw [this] at e3
            exact hne (List.mem_map.mpr ⟨p, hp, nodup_ix hN e3 e1⟩)
          · exact e' (List.mem_of_getElem? e1)
        rcases r with rfl | ⟨rfl, rfl⟩
        · rcases hk' with rfl | rfl | rfl
          · exact absurd (.inl rfl) no
          · exact absurd (.inr rfl) no
          · exact ⟨e, .inr hk0⟩
        · exact ⟨e, .inl hk0⟩
      have e3 : Vis cenv.scope y := e3
      rcases e3 with e3 | e3 | e3
      · exact key _ e3 (.inl rfl)
      · exact key _ e3 (.inr (.inl rfl))
      · exact key _ e3 (.inr (.inr rfl))
    obtain ⟨m, hn, hl⟩ := I.loc
    have hvis : Vis X.env.scope y := (ok.free _ (PySem.mem_of_lookup hfr.1) rfl).elim (fun k => .inr (.inl k)) (fun k => .inr (.inr k))
    obtain ⟨w, r, q⟩ := hl i y av e1 e2 hvis
    refine ⟨w, r, .inr ⟨hfr.2, ?_⟩⟩
    obtain ⟨c, h1, h2⟩ := look hfr.1
    rcases q with ⟨k, _⟩ | ⟨_, c', e', z⟩
    · have k : X.env.scope.names.lookup y = some .local := k
      rcases ok.free _ (PySem.mem_of_lookup hfr.1) rfl with k' | k' <;> rw [show X.env.scope.names.lookup y = _ from k'] at k <;> cases k
    · rw [h2] at e'; cases e'
      exact ⟨c, h1, z.keeps kp⟩
  · have e : cenv.cells.lookup y = some c := e
    rcases mem e with ⟨h1, _⟩ | ⟨_, z⟩
    · obtain ⟨w, z⟩ := I.cell y c h1
      exact ⟨w, z.keeps kp⟩
    · exact ⟨_, z⟩
  · show H cenv.locals = none
    rw [hL]; exact I.hok.fresh (Nat.le_refl _)
  · have e : cenv.cells.lookup y = some c := e
    rcases mem e with ⟨h1, _⟩ | ⟨h1, _⟩
    · exact I.freeC y c h1
    · exact I.hok.fresh (Nat.le_of_succ_le h1)
  · exact absurd (show p ∈ ([] : List (Addr × Obj)) ++ [] from hp) (by simp)
theorem app_ok {E : Value → Shared → Prop} {D : Addr} {xs : List V} {y : V} {v : Value} {Q : Value → Shared → Prop} (I : Inv X pins σ H s) (hD : H D = some (.lst xs)) (hz : xs.length < sizeLine) (r : RelV y v)
    (h : ∀ s', Inv X pins σ (upd H D (.lst (xs ++ [y]))) s' → Q .none s') : wpAny (model X.prog X.w) X.A (call (.builtin "list.append") [.ref D, v]) Q E s := by
  obtain ⟨hz', its, n, ri, e⟩ := I.hok D _ hD
  have hl := ri.length
  refine append_at (hsz := by rw [List.size_toArray]; omega) e fun h' sb ho' => ?_
  refine h { s with heap := h' } (I.write (t' := s.toks) (by rw [hD]; trivial) (.inl rfl) (fun b u hb q => (sb.2 b hb).trans q) ⟨_, ho'⟩ ⟨by rw [List.length_append]; exact hz, its ++ [v], n + 1, ri.append (.cons r .nil), ?_⟩)
  rw [ho']
  simp
def PTs (X : Cx) (ifs : List Expr) (t : TT) : Prop :=
  ∀ (pins : List (Addr × Obj)) (s : Shared) (σ : St) (H : Hp) (Q : Bool → Hp → Prop), Inv X pins σ H s → t σ H Q →
    wpAny (model X.prog X.w) X.A (forIn ifs true fun c r => if r = true then do let ok ← isTrue c X.env (eval c X.env); pure (ForInStep.yield ok) else pure (ForInStep.yield r)) (TP X pins σ Q) X.xe s
def tYes : TT := fun _ H Q => Q true H
theorem pts_nil : PTs X [] tYes := fun _ _ _ H _ I h => wpAny_tests_nil ⟨H, I, h⟩
theorem pts_one {c : Expr} {t : TT} (h : PT X c t) : PTs X [c] t := fun pins s σ H Q I hw => wpAny_tests_one (h pins s σ H Q I hw)
end
theorem thnF {α : Type} {t : Sem α} {Q Q' : α → Shared → Prop} {M : Model} {A : Around} {E : Value → Shared → Prop} {s : Shared} (h : wpAny M A t Q (fun _ _ => False) s) (hQ : ∀ a s, Q a s → Q' a s) : wpAny M A t Q' E s := wpAny_mono h hQ fun _ _ z => False.elim z
theorem compLoop_any {prog : Program} {w : World} {A : Around} {R : Result → Shared → Prop} {s : Shared} {elt target iter : Expr} {ifs : List Expr} {scope : Scope} {pos : Pos} {it acc : Value} {env : Env} (I : Nat → Shared → Prop)
    (turn : ∀ n s, I n s → wpAny (model prog w) A (pyNext it) (fun r s₁ => match r with
      | none => R (.ok .next) s₁
      | some v => wpAny (model prog w) A (letOwnedTupleGo target it v) (fun _ s₁' => wpAny (model prog w) A (assign target env v) (fun _ s₂ =>
          wpAny (model prog w) A (forIn ifs true fun c r => if r = true then do let ok ← isTrue c env (eval c env); pure (ForInStep.yield ok) else pure (ForInStep.yield r)) (fun ok s₃ =>
            if ok = true then wpAny (model prog w) A (eval elt env) (fun x s₄ =>
              wpAny (model prog w) A (call (.builtin "list.append") [acc, x]) (fun _ s₅ => ∃ m, m < n ∧ I m s₅) (notedBy (model prog w) A env fun e s' => R (.error e) s') s₄) (notedBy (model prog w) A env fun e s' => R (.error e) s') s₃
            else ∃ m, m < n ∧ I m s₃) (notedBy (model prog w) A env fun e s' => R (.error e) s') s₂) (notedBy (model prog w) A env fun e s' => R (.error e) s') s₁') (notedBy (model prog w) A env fun e s' => R (.error e) s') s₁) (notedBy (model prog w) A env fun e s' => R (.error e) s') s)
    (n : Nat) (h : I n s) :
    codeAny (model prog w) A (.compLoop (.ListComp elt [⟨target, iter, ifs, 0⟩] scope pos) 0 it acc env) R s := by
  refine codeAny_loop rfl I (fun n s hI => ?_) n h
  show wpAny _ A ((compTurn (.ListComp elt [⟨target, iter, ifs, 0⟩] scope pos) 0 it acc env).onRaise (fun x => do noteFrame x env; theTreesLotGoes x)) _ _ s
  refine wpAny_noted ?_
  rw [compTurn_list]
  refine wpAny_bind (wpAny_standAt (wpAny_bind (wpAny_mono (turn n s hI) (fun r s₁ h₁ => ?_) fun _ _ h' => h')))
  cases r with
  | none => exact wpAny_pure h₁
  | some v =>
    refine wpAny_bind (wpAny_mono h₁ (fun _ s₁' h₁' => ?_) fun _ _ h' => h')
    refine wpAny_bind (wpAny_mono h₁' (fun _ s₂ h₂ => wpAny_bind (wpAny_mono h₂ (fun ok s₃ h₃ => ?_) fun _ _ h' => h')) fun _ _ h' => h')
    cases ok with
    | false => exact wpAny_pure ⟨rfl, h₃⟩
    | true =>
      exact wpAny_bind (wpAny_bind (wpAny_mono h₃ (fun x s₄ h₄ => wpAny_bind (wpAny_mono h₄ (fun _ s₅ h₅ => wpAny_pure (wpAny_pure ⟨rfl, h₅⟩)) fun _ _ h' => h')) fun _ _ h' => h'))
section
variable {X : Cx}
def tLc (wi : TI) (g : TG) (tt : TT) (te : TE) (vs : List Nat) : TE := fun σ H Q => wi σ H fun J H1 => ∀ D, H1 D = none → ∃ W : Nat → Nat → Hp → Prop, (∃ m, W 0 m (upd H1 D (.lst []))) ∧ ∀ i m H, W i m H →
  (J.stop i H ∧ Q (.ref D) H) ∨ (J.go i H ∧ ∃ Nx : Hp → Prop, (∀ H', Nx H' → ∃ m', m' < m ∧ W (i + 1) m' H') ∧ ∀ x H', J.yld i H x H' → g x (wipe σ vs) H' fun σ2 H2 => wipe σ2 vs = wipe σ vs ∧ tt σ2 H2 fun b H3 =>
    if b = true then te σ2 H3 fun y H4 => ∃ acc, H4 D = some (.lst acc) ∧ acc.length < sizeLine ∧ Nx (upd H4 D (.lst (acc ++ [y]))) else Nx H3)
theorem lc_core {pins : List (Addr × Obj)} {s : Shared} {σ : St} {H : Hp} {Q : VK} {elt tg iter : Expr} {ifs : List Expr} {scope : Scope} {own : List (Str × Nat)} {pos pos' : Pos} {wi : TI} {g : TG} {tt : TT} {te : TE} {use : Option (Value → Sem Unit)} {Qf : Value → Shared → Prop}
    (hc : X.calm = true) (hN : X.N.Nodup) (I : Inv X pins σ H s) (hi : PI X tg iter wi) (ok : BlkOk X.N X.env.scope scope own)
    (hg : ∀ (s : Shared) (H : Hp) (C : Addr) (cl : List (Str × Addr)) (fp : List Addr), PG (X.blk s H scope (compEnvC scope cl C X.env) fp) tg g) (ht : ∀ (s : Shared) (H : Hp) (C : Addr) (cl : List (Str × Addr)) (fp : List Addr), PTs (X.blk s H scope (compEnvC scope cl C X.env) fp) ifs tt)
    (he : ∀ (s : Shared) (H : Hp) (C : Addr) (cl : List (Str × Addr)) (fp : List Addr), PE (X.blk s H scope (compEnvC scope cl C X.env) fp) elt te) (hs : ∀ x, foldedSetIterable iter X.env x = pure x)
    (h : tLc wi g tt te (own.map (·.2)) σ H Q)
    (hRR : ∀ D C s' m H', Inv X pins σ H' s' → Q (.ref D) H' → s'.heap.Ns C m → FpOk X pins H' C → compPost (model X.prog X.w) X.A X.xe use Qf (.ref D) C (.ok .next) s') :
    wpAny (model X.prog X.w) X.A (comprehension (.ListComp elt [⟨tg, iter, ifs, 0⟩] scope pos) scope X.env pos' (newList []) false (eval iter X.env) use) Qf X.xe s := by
  have hfree : ∀ y ∈ scope.names, y.2 = .free → ∃ c, X.env.cells.lookup y.1 = some c := fun y hy e => by
    rcases ok.free y hy e with k | k
    · exact I.ok.has _ (.inl k)
    · exact I.ok.has _ (.inr k)
  refine wpAny_comprehension_free (use := use) rfl hs (closure_ok hfree) ok.kind (fun y hy e => by rw [ok.uniq y hy, e])
    (thn (hi pins s σ H _ I h) fun xv s1 hx => thn hx fun itv s2 h2 => ?_)
  obtain ⟨it, fp, tn, J, H2, e, I2, T, st2, f2, q⟩ := h2
  subst e
  refine wpAny_newObj_type (newEnv_comp ?_) (by show 0 ≤ sizeLine; decide)
  generalize hD : s2.heap.objs.size = D
  have hDn : H2 D = none := I2.hok.fresh (Nat.le_of_eq hD)
  obtain ⟨W, ⟨m0, w0⟩, turn⟩ := q D hDn
  generalize hs3 : ({ s2 with heap := s2.heap.push { cls := .type "list", data := .seq ([] : List Value).toArray } } : Shared) = s3
  have I3 : Inv X pins σ (upd H2 D (.lst [])) s3 := by
    rw [← hs3]
    refine I2.laid (t' := s2.toks) (fun b o e => Heap.get?_push_of_some _ e) (Nat.le_of_eq hD) ⟨Nat.zero_le _, [], 0, .nil, ?_⟩
    rw [← hD]
    exact Heap.get?_push_size _ rfl
  have h3 : s3.heap = s2.heap.push { cls := .type "list", data := .seq ([] : List Value).toArray } := by rw [← hs3]
  have sz : ∀ b ∈ fp, b < s2.heap.objs.size := fun b hb => by
    obtain ⟨o, e, _⟩ := T.obj _ _ st2 b hb
    exact Heap.lt_size e
  have f3 : ∀ b ∈ fp, FpOk X pins (upd H2 D (.lst [])) b ∧ b < s3.heap.objs.size := fun b hb => by
    have hlt := sz b hb
    refine ⟨⟨?_, (f2 b hb).2⟩, by rw [h3, Heap.size_push]; exact Nat.lt_succ_of_lt hlt⟩
    rw [upd_ne (by rw [← hD]; exact Nat.ne_of_lt hlt)]
    exact (f2 b hb).1
  have st3 : tn 0 s3.heap := T.keep _ _ _ st2 fun b _ o e => by rw [h3]; exact Heap.get?_push_of_some _ e
  have I4 := block_start I3 ok hN f3
  have pg := hg s3 (upd H2 D (.lst [])) s3.heap.objs.size (cellsFrom (s3.heap.objs.size + 1) scope.names (cloFrom X.env.cells scope.names [])) fp
  have pt := ht s3 (upd H2 D (.lst [])) s3.heap.objs.size (cellsFrom (s3.heap.objs.size + 1) scope.names (cloFrom X.env.cells scope.names [])) fp
  have pe := he s3 (upd H2 D (.lst [])) s3.heap.objs.size (cellsFrom (s3.heap.objs.size + 1) scope.names (cloFrom X.env.cells scope.names [])) fp
  show codeAny _ _ (.compStart (.ListComp elt [⟨tg, iter, ifs, 0⟩] scope pos) 0 (.ref it) (.ref D) (compEnvC scope (cellsFrom (s3.heap.objs.size + 1) scope.names (cloFrom X.env.cells scope.names [])) s3.heap.objs.size X.env)) (compPost (model X.prog X.w) X.A X.xe use Qf (.ref D) s3.heap.objs.size) { s3 with heap := pushCells (s3.heap.push { cls := .type "dict", data := .dict #[] }) scope.names }
  have nfp : ∀ b ∈ fp, (upd H2 D (.lst [])) b = none := fun b hb => (f3 b hb).1.1
  generalize hce : compEnvC scope (cellsFrom (s3.heap.objs.size + 1) scope.names (cloFrom X.env.cells scope.names [])) s3.heap.objs.size X.env = ce at I4 pg pt pe ⊢
  have cL : ce.locals = s3.heap.objs.size := by subst hce; rfl
  generalize hH3 : upd H2 D (.lst []) = H3 at I3 I4 pg pt pe w0 nfp f3
  generalize hs4 : ({ s3 with heap := pushCells (s3.heap.push { cls := .type "dict", data := .dict #[] }) scope.names } : Shared) = s4 at I4 ⊢
  have st4 : tn 0 s4.heap := T.keep _ _ _ st3 fun b _ o e => by rw [← hs4]; exact pushCells_keeps _ _ _ _ (Heap.get?_push_of_some _ e)
  have stat : ∀ {σ' : St} {H' : Hp} {s' : Shared}, Inv (X.blk s3 H3 scope ce fp) [] σ' H' s' → (∀ b ∈ fp, H' b = none) → ∀ b ∈ fp, FpOk (X.blk s3 H3 scope ce fp) [] H' b := fun {σ' H' s'} I' hn b hb =>
    ⟨hn b hb, (I'.ok.exf b hb).1, I'.ok.exfs b hb, .inl hb, fun x c e => (I'.ok.exf b hb).2 x c e, fun p hp => absurd (show p ∈ ([] : List (Addr × Obj)) ++ [] from hp) (by simp)⟩
  have loop : codeAny (model X.prog X.w) X.A (.compLoop (.ListComp elt [⟨tg, iter, ifs, 0⟩] scope pos) 0 (.ref it) (.ref D) ce) (compPost (model X.prog X.w) X.A X.xe use Qf (.ref D) s3.heap.objs.size) s4 := by
    refine compLoop_any (fun n s' => ∃ i H', Inv (X.blk s3 H3 scope ce fp) [] (wipe σ (own.map (·.2))) H' s' ∧ tn i s'.heap ∧ (∀ b ∈ fp, H' b = none) ∧ W i n H') ?_ m0 ⟨0, H3, I4, st4, nfp, w0⟩
    rintro n s5 ⟨i, H5, I5, st5, n5, w5⟩
    rcases turn i n H5 w5 with ⟨stop, qq⟩ | ⟨go, Nx, hNx, step⟩
    · have td := T.done (X.blk s3 H3 scope ce fp) rfl rfl rfl hc i [] s5 _ H5 (fun _ _ => False) I5 (stat I5 n5) st5 stop
      refine thnF td fun r s6 ⟨hr, I6⟩ => ?_
      subst hr
      have I7 : Inv X pins σ H5 s6 := I3.call' (ch := fp) I6.os I6.base I6.hok I6.bare fun b hb => ⟨(f3 b hb).1.2.2.2.1, (f3 b hb).1.2.1, (f3 b hb).1.2.2.2.2.1, (f3 b hb).1.2.2.2.2.2⟩
      have nC : H5 s3.heap.objs.size = none := by
        have z : H5 ce.locals = none := I6.free
        rw [cL] at z
        exact z
      obtain ⟨m, hn, _⟩ := I6.loc
      have hn : s6.heap.Ns ce.locals m := hn
      rw [cL] at hn
      exact hRR D s3.heap.objs.size s6 m H5 I7 qq hn (I3.fpOk (Nat.le_refl _) nC)
    · have ti := T.item (X.blk s3 H3 scope ce fp) rfl rfl rfl hc i [] s5 _ H5 (fun _ _ => False) I5 (stat I5 n5) st5 go
      refine thnF ti fun r s6 ⟨u, hr, h6⟩ => ?_
      subst hr
      refine thnF h6 fun _ s7 ⟨x, H7, I7, r7, y7, st7, n7⟩ => ?_
      have I7' := I7.pinned (stat I7 n7) (T.obj _ _ st7)
      refine thnF (pg _ s7 _ H7 x u _ I7' r7 (step x H7 y7)) fun _ s8 ⟨σ8, H8, I8, hw8, q8⟩ => ?_
      refine thnF (pt _ s8 σ8 H8 _ I8 q8) fun b s9 ⟨H9, I9, q9⟩ => ?_
      have fin : ∀ {s' : Shared} {H' : Hp}, Inv (X.blk s3 H3 scope ce fp) ([] ++ pinsAt fp s7.heap) σ8 H' s' → Nx H' → ∃ m, m < n ∧ ∃ i H', Inv (X.blk s3 H3 scope ce fp) [] (wipe σ (own.map (·.2))) H' s' ∧ tn i s'.heap ∧ (∀ b ∈ fp, H' b = none) ∧ W i m H' := fun {s' H'} I' nx => by
        obtain ⟨m', hm, w'⟩ := hNx H' nx
        have pin' : ∀ b ∈ fp, ∀ o, s7.heap.get? b = some o → s'.heap.get? b = some o ∧ H' b = none := fun b hb o e =>
          let z := I'.pin (b, o) (List.mem_append_right _ (List.mem_append_right _ (mem_pinsAt hb e)))
          ⟨z.1, z.2.1⟩
        have hl : (wipe σ (own.map (·.2))).length = σ8.length := by rw [← hw8, wipe_length]
        refine ⟨m', hm, i + 1, H', (I'.unpinned (pins := [])).weak hl (fun j v e => ?_), T.keep _ _ _ st7 fun b hb o e => (pin' b hb o e).1, fun b hb => ?_, w'⟩
        · rw [← hw8] at e
          exact (wipe_some e).1
        · obtain ⟨o, e, _⟩ := T.obj _ _ st7 b hb
          exact (pin' b hb o e).2
      cases b with
      | false =>
        simp only [Bool.false_eq_true, if_false] at q9 ⊢
        exact fin I9 q9
      | true =>
        simp only [if_true] at q9 ⊢
        refine thnF (pe _ s9 σ8 H9 _ I9 q9) fun z s10 ⟨yv, H10, I10, r10, acc, hD10, hz10, nx⟩ => ?_
        exact app_ok (X := X.blk s3 H3 scope ce fp) I10 hD10 hz10 r10 fun s11 I11 => fin I11 nx
  exact codeAny_compStart_list loop (T.self X.A 0 _ _ _ st4 loop)
theorem pe_lc {elt tg iter : Expr} {ifs : List Expr} {scope : Scope} {own : List (Str × Nat)} {pos : Pos} {wi : TI} {g : TG} {tt : TT} {te : TE} (hc : X.calm = true) (hN : X.N.Nodup) (hi : PI X tg iter wi) (ok : BlkOk X.N X.env.scope scope own)
    (hg : ∀ (s : Shared) (H : Hp) (C : Addr) (cl : List (Str × Addr)) (fp : List Addr), PG (X.blk s H scope (compEnvC scope cl C X.env) fp) tg g) (ht : ∀ (s : Shared) (H : Hp) (C : Addr) (cl : List (Str × Addr)) (fp : List Addr), PTs (X.blk s H scope (compEnvC scope cl C X.env) fp) ifs tt)
    (he : ∀ (s : Shared) (H : Hp) (C : Addr) (cl : List (Str × Addr)) (fp : List Addr), PE (X.blk s H scope (compEnvC scope cl C X.env) fp) elt te) (hs : ∀ x, foldedSetIterable iter X.env x = pure x := by intro _; rfl) :
    PE X (.ListComp elt [⟨tg, iter, ifs, 0⟩] scope pos) (tLc wi g tt te (own.map (·.2))) := by
  intro pins s σ H Q I h
  rw [eval_ListComp]
  refine lc_core hc hN I hi ok hg ht he hs h fun D C s' m H' I' q hn f => ⟨m, hn, fun h'' sb => ?_⟩
  obtain ⟨f0, f1, f2, f3, f4, f5⟩ := f
  exact ⟨.ref D, H', I'.turned (t' := s'.toks) (fun b o hb e => (sb.2 b hb).trans e) f0 f1 f3 f4 f5, rfl, q⟩
theorem ps_setLc {i : Nat} {y : Str} {py : Pos} {elt tg iter : Expr} {ifs : List Expr} {scope : Scope} {own : List (Str × Nat)} {pos spos : Pos} {wi : TI} {g : TG} {tt : TT} {te : TE} (hc : X.calm = true) (hN : X.N.Nodup) (hy : X.N[i]? = some y) (hyl : X.env.scope.names.lookup y = some .local)
    (hsw : swapsWith (.ListComp elt [⟨tg, iter, ifs, 0⟩] scope pos) (some (.Name y py)) spos.line X.env = pure true) (hi : PI X tg iter wi) (ok : BlkOk X.N X.env.scope scope own)
    (hg : ∀ (s : Shared) (H : Hp) (C : Addr) (cl : List (Str × Addr)) (fp : List Addr), PG (X.blk s H scope (compEnvC scope cl C X.env) fp) tg g) (ht : ∀ (s : Shared) (H : Hp) (C : Addr) (cl : List (Str × Addr)) (fp : List Addr), PTs (X.blk s H scope (compEnvC scope cl C X.env) fp) ifs tt)
    (he : ∀ (s : Shared) (H : Hp) (C : Addr) (cl : List (Str × Addr)) (fp : List Addr), PE (X.blk s H scope (compEnvC scope cl C X.env) fp) elt te) (hs : ∀ x, foldedSetIterable iter X.env x = pure x := by intro _; rfl) :
    PS X (.Assign [.Name y py] (.ListComp elt [⟨tg, iter, ifs, 0⟩] scope pos) spos) (tAsg (tLc wi g tt te (own.map (·.2))) (gName i)) := by
  intro pins s σ H D I h
  rw [exec_Assign_Name_used _ _ _ _ hsw]
  refine wpAny_bind (wpAny_standAt (wpAny_bind ?_))
  show wpAny _ X.A (do let _ ← comprehension (.ListComp elt [⟨tg, iter, ifs, 0⟩] scope pos) scope X.env (firstIterPos [⟨tg, iter, ifs, 0⟩] pos) (newList []) false (eval iter X.env) (some (assign (.Name y py) X.env))) _ _ s
  have h : tLc wi g tt te (own.map (·.2)) σ H (fun x H1 => gName i x σ H1 D.nx) := h
  refine wpAny_bind (thn (lc_core (Qf := fun _ s' => SP X pins D .next s') hc hN I hi ok hg ht he hs h fun L C s' m H' I' q hn f => ?_) fun _ s' hq => wpAny_pure (wpAny_pure hq))
  show wpAny _ _ (assign (.Name y py) X.env (.ref L)) _ _ _
  refine wpAny_assign_Name (store_ok2 (v := V.ref L) I' hN hy (.inl hyl) rfl (fun s2 I2 ⟨a, sb, ha⟩ => ?_) (.inr hyl))
  obtain ⟨f0, f1, f2, f3, f4, f5⟩ := f
  have haC : C ≠ a := by
    rcases ha with z | z
    · rw [z]; exact f1
    · exact fun e => f4 y a z e.symm
  refine ⟨m, hn.sameBut sb haC, fun h3 sb3 => ?_⟩
  exact ⟨_, H', I2.turned (t' := s2.toks) (fun b o hb e => (sb3.2 b hb).trans e) f0 f1 f3 f4 f5, q⟩
theorem sw_true {elt : Expr} {gs : List Comprehension} {scope : Scope} {pos py : Pos} {y : Str} {l : Nat} {env : Env} (hk : env.scope.kind = .function) (hy : env.scope.names.lookup y = some .local) (hl : (py.line == pos.line) = true)
    (ha : (scope.names.any fun (n, k) => n == y && (k == .local || k == .cell)) = false) : swapsWith (.ListComp elt gs scope pos) (some (.Name y py)) l env = pure true := by
  have ky : env.kindOf y = some .local := hy
  have hb : env.blockKind = .function := by unfold Env.blockKind; rw [hk]; rfl
  unfold swapsWith
  simp only [hb, ky, ha, Expr.pos, hl]
  rfl
end
def blkC (N : List Str) (sc scope : Scope) (own : List (Str × Nat)) : Bool :=
  (match scope.kind with | .function => true | _ => false) && (scope.names.all fun y => decide (scope.names.lookup y.1 = some y.2)) && (own.all fun p => decide (N[p.2]? = some p.1)) &&
    (scope.names.all fun y => match y.2 with
      | .free => (match sc.names.lookup y.1 with | some .cell => true | some .free => true | _ => false)
      | .local => decide (y.1 ∈ own.map (·.1)) || decide (y.1 ∉ N)
      | .cell => decide (y.1 ∈ own.map (·.1)) || decide (y.1 ∉ N)
      | _ => true)
theorem blkOk_by {N : List Str} {sc scope : Scope} {own : List (Str × Nat)} (h : blkC N sc scope own = true) : BlkOk N sc scope own := by
  unfold blkC at h
  simp only [Bool.and_eq_true, List.all_eq_true, decide_eq_true_eq] at h
  obtain ⟨⟨⟨h1, h2⟩, h3⟩, h4⟩ := h
  refine ⟨?_, h2, h3, fun y hy e => ?_, fun y hy e => ?_⟩
  · split at h1
    · assumption
    · cases h1
  · have q := h4 y hy
    simp only [e] at q
    split at q <;> first | exact .inl (by assumption) | exact .inr (by assumption) | cases q
  · have q := h4 y hy
    rcases e with e | e <;> (simp only [e, Bool.or_eq_true, decide_eq_true_eq] at q; exact q)
end L2
namespace L2
open PySem PySem.Spec PyProof.Rows
end L2
namespace L2
open PySem PySem.Spec PyProof.Rows
end L2
namespace L2
open PySem PySem.Spec PyProof.Rows
end L2
namespace L2
open PySem PySem.Spec PyProof.Rows
section
variable {X : Cx} {pins : List (Addr × Obj)} {σ : St} {H : Hp} {s : Shared} {h' : Heap}
theorem Inv.turnedL {t' : Nat} {ch : List Addr} (I : Inv X pins σ H s) (k : ∀ b o, b ∉ ch → s.heap.get? b = some o → h'.get? b = some o) (hf : ∀ b ∈ ch, FpOk X pins H b) : Inv X pins σ H { s with heap := h', toks := t' } := by
  have nit : ∀ b u, H b = some u → b ∉ ch := fun b u e z => by
    have q := (hf b z).1
    rw [q] at e; cases e
  refine I.step (g' := s.gens) (d' := s.drawn) (ch := ch) (fun b hb => ⟨(hf b hb).2.2.2.1, (hf b hb).2.1, (hf b hb).2.2.2.2.1, (hf b hb).2.2.2.2.2⟩) (fun b o _ _ hc e _ => k b o hc e) (fun b o _ _ hc e _ => ⟨o.slots, k b o hc e⟩)
    (fun _ _ _ _ n => n) (fun b o hc e => ⟨o, k b o hc e⟩) (fun _ _ e => e) (fun _ _ _ e => e) (fun b ps e => ⟨#[], by rw [e]; simp⟩) (fun m hm => ?_) (fun b u e => ?_) I.bare
  · obtain ⟨o, es, ep, ho, r⟩ := hm
    exact ⟨o, es, ep, k _ o (fun z => (hf _ z).2.1 rfl) ho, r⟩
  · refine (I.hok b u e).stay (fun c v hc q => k c v ?_ q) (fun _ q => q) fun _ _ q => q
    rcases hc with z | z
    · rw [z]; exact nit b u e
    · exact nit c _ z
theorem Inv.turnedNew {t' : Nat} {ch : List Addr} {T : Addr} {ob : HO} (I : Inv X pins σ H s) (k : ∀ b o, b ∉ ch → s.heap.get? b = some o → h'.get? b = some o) (hf : ∀ b ∈ ch, FpOk X pins H b) (hT : s.heap.objs.size ≤ T)
    (new : ObjOk X.prog X.w (upd H T ob) h' T ob) : Inv X pins σ (upd H T ob) { s with heap := h', toks := t' } := by
  have hn : H T = none := I.hok.fresh hT
  have nit : ∀ b u, H b = some u → b ∉ ch := fun b u e z => by
    have q := (hf b z).1
    rw [q] at e; cases e
  refine I.step (g' := s.gens) (d' := s.drawn) (ch := ch) (fun b hb => ⟨(hf b hb).2.2.2.1, (hf b hb).2.1, (hf b hb).2.2.2.2.1, (hf b hb).2.2.2.2.2⟩) (fun b o _ _ hc e _ => k b o hc e) (fun b o _ _ hc e _ => ⟨o.slots, k b o hc e⟩)
    (fun b o _ e n => ?_) (fun b o hc e => ⟨o, k b o hc e⟩) (fun b xs e => ?_) (fun b o u e => ?_) (fun b ps e => ⟨#[], ?_⟩) (fun m hm => ?_) (fun b u e => ?_) I.bare
  · rw [upd_ne (Nat.ne_of_lt (Nat.lt_of_lt_of_le (Heap.lt_size e) hT))]; exact n
  · rw [upd_ne (ne_of_none e hn)]; exact e
  · rw [upd_ne (ne_of_none e hn)]; exact e
  · rw [upd_ne (ne_of_none e hn), e]; simp
  · obtain ⟨o, es, ep, ho, r⟩ := hm
    exact ⟨o, es, ep, k _ o (fun z => (hf _ z).2.1 rfl) ho, r⟩
  · by_cases hb : b = T
    · subst hb
      rw [upd_same] at e
      cases e
      exact new
    · rw [upd_ne hb] at e
      refine (I.hok b u e).stay (fun c v hc q => k c v ?_ q) (fun c q => by rw [upd_ne (ne_of_none q hn)]; exact q) fun c xs q => by rw [upd_ne (ne_of_none q hn)]; exact q
      rcases hc with z | z
      · rw [z]; exact nit b u e
      · exact nit c _ z
theorem Inv.lock {d : Addr} {u : HO} (I : Inv X pins σ H s) (h : H d = some u) (mu : Mut (some u)) : ∃ od, Inv X pins σ (upd H d (.frz od u)) s := by
  have x := I.hok d u h
  have ex : ∃ od, s.heap.get? d = some od := by
    cases u with
    | lst xs => obtain ⟨_, _, _, _, e⟩ := x; exact ⟨_, e⟩
    | dK kvs => obtain ⟨_, _, _, _, o, _, _, e, _⟩ := x; exact ⟨o, e⟩
    | dT kvs => obtain ⟨_, _, _, _, o, _, _, e, _⟩ := x; exact ⟨o, e⟩
    | set S n => obtain ⟨o, _, _, _, e, _⟩ := x; exact ⟨o, e⟩
    | ins C dx fs => obtain ⟨_, _, _, e, _⟩ := x; exact ⟨_, e⟩
    | ext φ => obtain ⟨_, ⟨_, e⟩, _⟩ := x; exact ⟨_, e⟩
    | _ => exact False.elim mu
  obtain ⟨od, e⟩ := ex
  have new : ObjOk X.prog X.w (upd H d (.frz od u)) s.heap d (.frz od u) := by
    refine ⟨e, x.stay (fun b v _ q => q) (fun b q => ?_) fun b xs q => ?_⟩
    · rw [upd_ne (fun z => by rw [z, h] at q; cases q; exact mu)]; exact q
    · rw [upd_ne (fun z => by rw [z, h] at q; cases q; exact mu)]; exact q
  exact ⟨od, I.write (x := d) (e := d) (t' := s.toks) (h' := s.heap) (by rw [h]; exact mu) (.inl rfl) (fun b v _ q => q) ⟨od, e⟩ new⟩
theorem Inv.nofrz {d : Addr} {u : HO} (I : Inv X pins σ H s) (h : H d = some u) (mu : Mut (some u)) : ∀ o' u', X.H_0 d ≠ some (.frz o' u') := fun o' u' e => by
  have q := I.base.frzs d o' u' e
  rw [h] at q
  cases q
  exact mu
theorem Inv.unlock {d : Addr} {od : Obj} {u : HO} (I : Inv X pins σ H s) (h : H d = some (.frz od u)) (hn : ∀ o' u', X.H_0 d ≠ some (.frz o' u')) : Inv X pins σ (upd H d u) s := by
  have neH : ∀ b o, H b = some o → (∀ o' u', o ≠ .frz o' u') → b ≠ d := fun b o e hne z => by
    rw [z, h] at e
    cases e
    exact hne _ _ rfl
  have neN : ∀ b, H b = none → b ≠ d := fun b e z => by rw [z, h] at e; cases e
  refine ⟨I.ok, I.os, I.bare, ⟨I.base.keep, I.base.slot, fun b o e n hx => ?_, I.base.there, fun b xs e => ?_, fun b o x e => ?_, fun b ps e => ?_⟩, I.loc, I.cell, ?_, fun x c e => ?_, fun p hp => ?_, fun b o e => ?_, I.len⟩
  · rw [upd_ne (neN b (I.base.free b o e n hx))]; exact I.base.free b o e n hx
  · have q := I.base.tups b xs e
    rw [upd_ne (neH b _ q (fun _ _ z => nomatch z))]; exact q
  · have q := I.base.frzs b o x e
    rw [upd_ne (fun z => by rw [z] at e; exact hn _ _ e)]; exact q
  · obtain ⟨m, q⟩ := I.base.tbls b ps e
    exact ⟨m, by rw [upd_ne (neH b _ q (fun _ _ z => nomatch z))]; exact q⟩
  · rw [upd_ne (neN _ I.free)]; exact I.free
  · rw [upd_ne (neN c (I.freeC x c e))]; exact I.freeC x c e
  · obtain ⟨e, n, r⟩ := I.pin p hp
    exact ⟨e, by rw [upd_ne (neN _ n)]; exact n, r⟩
  · by_cases hb : b = d
    · rw [hb, upd_same] at e
      cases e
      rw [hb]
      obtain ⟨_, x⟩ := I.hok d _ h
      exact x.stay (fun c v _ q => q) (fun c q => by rw [upd_ne (neH c _ q (fun _ _ z => nomatch z))]; exact q) fun c xs q => by rw [upd_ne (neH c _ q (fun _ _ z => nomatch z))]; exact q
    · rw [upd_ne hb] at e
      exact (I.hok b o e).stay (fun c v _ q => q) (fun c q => by rw [upd_ne (neH c _ q (fun _ _ z => nomatch z))]; exact q) fun c xs q => by rw [upd_ne (neH c _ q (fun _ _ z => nomatch z))]; exact q
end
def tLock (t : TS) : TS := fun D σ H => ∃ d u, H d = some u ∧ Mut (some u) ∧ ∀ od, t ⟨fun σ' H' => H' d = some (.frz od u) ∧ D.nx σ' (upd H' d u), fun v H' => H' d = some (.frz od u) ∧ D.rt v (upd H' d u), fun σ' H' => H' d = some (.frz od u) ∧ D.bk σ' (upd H' d u), fun σ' H' => H' d = some (.frz od u) ∧ D.ct σ' (upd H' d u)⟩ σ (upd H d (.frz od u))
section
variable {X : Cx}
theorem ps_lock {st : Stmt} {t : TS} (h : PS X st t) : PS X st (tLock t) := by
  intro pins s σ H D I hw
  obtain ⟨d, u, hd, mu, hw⟩ := hw
  obtain ⟨od, I1⟩ := I.lock hd mu
  refine thn (h pins s σ _ _ I1 (hw od)) fun f s1 q => ?_
  cases f with
  | next => obtain ⟨σ', H', I2, e, q⟩ := q; exact ⟨σ', _, I2.unlock e (I.nofrz hd mu), q⟩
  | brk => obtain ⟨σ', H', I2, e, q⟩ := q; exact ⟨σ', _, I2.unlock e (I.nofrz hd mu), q⟩
  | cont => obtain ⟨σ', H', I2, e, q⟩ := q; exact ⟨σ', _, I2.unlock e (I.nofrz hd mu), q⟩
  | ret v => obtain ⟨x, σ', H', I2, r, e, q⟩ := q; exact ⟨x, σ', _, I2.unlock e (I.nofrz hd mu), r, q⟩
end
def Ite (K : PySem.W.Frag) (a : Addr) : It :=
  ⟨fun i H => ∃ (xs : List V) (x : V), SqL K H a xs ∧ xs[i]? = some x, fun i H v H' => ∃ T x, v = .ref T ∧ H T = none ∧ H' = upd H T (.tup [.int (i : Nat), x]) ∧ ∀ xs, SqL K H a xs → xs[i]? = some x, fun i H => ∃ xs : List V, SqL K H a xs ∧ xs.length ≤ i⟩
theorem turn_enum {P : Program} {w : World} {K : PySem.W.Frag} {elts : List Expr} {kk : Nat} {tpos : Pos} (a e it : Addr) :
    Turn P w K (.Tuple elts kk tpos) (Ite K a) [e, it] e (fun i h => (∃ old, IsEnum h e it ((i : Nat) : Int) old) ∧ h.IsListIter it a i ∧ e ≠ it) where
  mem := by simp
  obj := fun i h st b hb => by
    obtain ⟨⟨old, he⟩, ⟨o, ho, hc, hd⟩, _⟩ := st
    have e' : b = e ∨ b = it := by simpa using hb
    rcases e' with z | z
    · rw [z]; exact ⟨_, he, fun v q => nomatch q⟩
    · rw [z]; exact ⟨o, ho, fun v q => by rw [hd] at q; cases q⟩
  keep := fun i h h' st k => let ⟨⟨old, he⟩, hi, hne⟩ := st; ⟨⟨old, k e (by simp) _ he⟩, hi.at fun o q => k it (by simp) o q, hne⟩
  item := by
    intro X hP hw hK hc i pins s σ H E I hf st hg
    subst hP hw hK
    obtain ⟨⟨old, he⟩, hit, hne⟩ := st
    obtain ⟨xs, x, hq, hx⟩ := hg
    obtain ⟨its, rv, p, hz⟩ := I.list hq
    obtain ⟨u, hu, ru⟩ := rv.get hx
    have hel : e < s.heap.objs.size := Heap.lt_size he
    have hil : it < s.heap.objs.size := by obtain ⟨_, q, _⟩ := hit; exact Heap.lt_size q
    refine wpAny_pyNext_enum_item he hit p.isList (x := u) (by simpa using hu) hne fun h' ho hit' hT hsz hk => ?_
    refine ⟨_, rfl, wpAny_letOwnedTupleGo_enum (s := { s with heap := h', toks := s.toks + 1 }) ho fun h'' he' sb => ?_⟩
    have hT2 : h''.get? s.heap.objs.size = some { cls := .type "tuple", data := .seq #[.int i s.toks, u] } := (sb.2 _ (Nat.ne_of_gt hel)).trans hT
    have new : ObjOk X.prog X.w (upd H s.heap.objs.size (.tup [.int (i : Nat), x])) h'' s.heap.objs.size (.tup [.int (i : Nat), x]) :=
      ⟨by show 2 ≤ sizeLine; decide, [.int i s.toks, u], .cons ⟨_, rfl⟩ (.cons ru .nil), ⟨_, hT2, rfl, _, rfl⟩⟩
    have I1 : Inv X pins σ (upd H s.heap.objs.size (.tup [.int (i : Nat), x])) { s with heap := h'', toks := s.toks + 1 } :=
      I.turnedNew (ch := [e, it]) (fun b ob hb q => (sb.2 b (fun z => hb (by simp [z]))).trans (hk b ob (fun z => hb (by simp [z])) (fun z => hb (by simp [z])) q)) hf (Nat.le_refl _) new
    refine ⟨.ref s.heap.objs.size, _, I1, rfl, ⟨_, x, rfl, I.hok.fresh (Nat.le_refl _), rfl, fun ys hy => by rw [I.list_inj hy hq]; exact hx⟩, ⟨⟨u, ?_⟩, hit'.at fun o q => (sb.2 it (Ne.symm hne)).trans q, hne⟩, fun b hb => ?_⟩
    · have e1 : ((i + 1 : Nat) : Int) = (i : Int) + 1 := by omega
      rw [e1]; exact he'
    · have hb' : b < s.heap.objs.size := by
        have e' : b = e ∨ b = it := by simpa using hb
        rcases e' with z | z
        · rw [z]; exact hel
        · rw [z]; exact hil
      rw [upd_ne (Nat.ne_of_lt hb')]
      exact (hf b hb).1
  done := by
    intro X hP hw hK hc i pins s σ H E I hf st hg
    subst hP hw hK
    obtain ⟨⟨old, he⟩, hit, hne⟩ := st
    obtain ⟨xs, hq, hx⟩ := hg
    obtain ⟨its, rv, p, hz⟩ := I.list hq
    obtain ⟨f0, f1, f2, f3, f4, f5⟩ := hf it (by simp)
    have hl := rv.length
    exact wpAny_pyNext_enum_end (I.ok.hd hc) he hit p.isList (by simp; omega) fun h' eb => ⟨rfl, I.turned (t' := s.toks) (fun b o hb q => eb b o hb q) f0 f1 f3 f4 f5⟩
  self := fun A i s Q E st h => let ⟨⟨_, he⟩, _⟩ := st; wpAny_pyIter_enum he h
def iEnum (K : PySem.W.Frag) (ta : TA) : TI := fun σ H R => ta σ H fun vs H1 => ∃ a xs, vs = [.ref a] ∧ SqL K H1 a xs ∧ R (Ite K a) H1
theorem pi_enum {X : Cx} {e : Expr} {ta : TA} {p pos tpos : Pos} {elts : List Expr} {kk : Nat} (hg : Gl X "enumerate") (hm : X.mg "enumerate" = none) (ha : PA X [e] ta) (hs : starEach [e] X.env = [(false, eval e X.env)] := by rfl) :
    PI X (.Tuple elts kk tpos) (.Call (.Name "enumerate" p) [e] [] pos) (iEnum X.K ta) := by
  intro pins s σ H R I h
  refine Call_ (ld_blt I hg hm boot_enumerate (PyProof.Rows.callWith_type1 (thn (ha pos pins s σ H _ I h) fun us s1 ⟨vs, H1, I1, r1, q1⟩ => ?_) hs rfl))
  obtain ⟨a, xs, ex, hq, q⟩ := q1
  subst ex
  cases r1 with
  | cons r rr =>
    cases rr
    cases r
    obtain ⟨its, rv, p', hz⟩ := I1.list hq
    refine call_enumerate_list p'.isList fun h' he hit hsz hk => wpAny_pyIter_enum he ?_
    have I2 : Inv X pins σ H1 { s1 with heap := h' } := I1.kept (t' := s1.toks) hk
    refine ⟨s1.heap.objs.size + 1, [s1.heap.objs.size + 1, s1.heap.objs.size], _, _, H1, rfl, I2, turn_enum a (s1.heap.objs.size + 1) s1.heap.objs.size, ⟨⟨.none, he⟩, hit, Nat.succ_ne_self _⟩, fun b hb => ?_, q⟩
    have e' : b = s1.heap.objs.size + 1 ∨ b = s1.heap.objs.size := by simpa using hb
    have hle : s1.heap.objs.size ≤ b := by
      rcases e' with z | z
      · rw [z]; exact Nat.le_add_right _ _
      · rw [z]; exact Nat.le_refl _
    exact I1.fpOk hle (I1.hok.fresh hle)
theorem boot_zip5 : bootBuiltins "zip" = some (.type "zip") := by decide +kernel
def Itz (K : PySem.W.Frag) (a b : Addr) : It :=
  ⟨fun i H => ∃ (xs ys : List V) (x y : V), SqL K H a xs ∧ SqL K H b ys ∧ xs[i]? = some x ∧ ys[i]? = some y,
    fun i H v H' => ∃ T x y, v = .ref T ∧ H T = none ∧ H' = upd H T (.tup [x, y]) ∧ (∀ xs, SqL K H a xs → xs[i]? = some x) ∧ ∀ ys, SqL K H b ys → ys[i]? = some y,
    fun i H => ∃ xs ys : List V, SqL K H a xs ∧ SqL K H b ys ∧ (xs.length ≤ i ∨ ys.length ≤ i)⟩
theorem turn_zip {P : Program} {w : World} {K : PySem.W.Frag} {elts : List Expr} {kk : Nat} {tpos : Pos} {a b z TI TO i1 i2 : Addr} (D : ZipApart z TI TO i1 i2 a b) :
    Turn P w K (.Tuple elts kk tpos) (Itz K a b) [z, TI, TO, i1, i2] z (fun i h => IsZip h z TI TO .none ∧ IsPair h TI (.ref i1) (.ref i2) ∧ (∃ x y, IsPair h TO x y) ∧ h.IsListIter i1 a i ∧ h.IsListIter i2 b i) where
  mem := by simp
  obj := fun i h st c hc => by
    obtain ⟨hz, hTI, ⟨x, y, hTO⟩, ⟨o1, e1, _, d1⟩, ⟨o2, e2, _, d2⟩⟩ := st
    have e' : c = z ∨ c = TI ∨ c = TO ∨ c = i1 ∨ c = i2 := by simpa using hc
    rcases e' with q | q | q | q | q
    · rw [q]; exact ⟨_, hz, fun v q => nomatch q⟩
    · rw [q]; exact ⟨_, hTI, fun v q => nomatch q⟩
    · rw [q]; exact ⟨_, hTO, fun v q => nomatch q⟩
    · rw [q]; exact ⟨o1, e1, fun v q => by rw [d1] at q; cases q⟩
    · rw [q]; exact ⟨o2, e2, fun v q => by rw [d2] at q; cases q⟩
  keep := fun i h h' st k => by
    obtain ⟨hz, hTI, ⟨x, y, hTO⟩, h1, h2⟩ := st
    exact ⟨k z (by simp) _ hz, k TI (by simp) _ hTI, ⟨x, y, k TO (by simp) _ hTO⟩, h1.at fun o q => k i1 (by simp) o q, h2.at fun o q => k i2 (by simp) o q⟩
  item := by
    intro X hP hw hK hc i pins s σ H E I hf st hg
    subst hP hw hK
    obtain ⟨hz, hTI, ⟨x0, y0, hTO⟩, h1, h2⟩ := st
    obtain ⟨xs, ys, x, y, hqx, hqy, hx, hy⟩ := hg
    obtain ⟨its, rv, p, _⟩ := I.list hqx
    obtain ⟨its2, rv2, p2, _⟩ := I.list hqy
    obtain ⟨u, hu, ru⟩ := rv.get hx
    obtain ⟨u2, hu2, ru2⟩ := rv2.get hy
    have hzl : z < s.heap.objs.size := Heap.lt_size hz
    refine wpAny_pyNext_zip_item D hz hTI hTO h1 h2 p.isList p2.isList (x := u) (y := u2) (by simpa using hu) (by simpa using hu2) fun h' z' TO' h1' h2' hT hsz hk => ?_
    refine ⟨_, rfl, wpAny_letOwnedTupleGo_zip (s := { s with heap := h' }) z' fun h'' z'' sb => ?_⟩
    have hT2 : h''.get? s.heap.objs.size = some { cls := .type "tuple", data := .seq #[u, u2] } := (sb.2 _ (Nat.ne_of_gt hzl)).trans hT
    have new : ObjOk X.prog X.w (upd H s.heap.objs.size (.tup [x, y])) h'' s.heap.objs.size (.tup [x, y]) :=
      ⟨by show 2 ≤ sizeLine; decide, [u, u2], .cons ru (.cons ru2 .nil), ⟨_, hT2, rfl, _, rfl⟩⟩
    have I1 : Inv X pins σ (upd H s.heap.objs.size (.tup [x, y])) { s with heap := h'' } :=
      I.turnedNew (t' := s.toks) (ch := [z, TI, TO, i1, i2]) (fun c o hb q => (sb.2 c (fun q' => hb (by simp [q']))).trans (hk c o (fun q' => hb (by simp [q'])) (fun q' => hb (by simp [q'])) (fun q' => hb (by simp [q'])) (fun q' => hb (by simp [q'])) q)) hf (Nat.le_refl _) new
    refine ⟨.ref s.heap.objs.size, _, I1, rfl, ⟨_, x, y, rfl, I.hok.fresh (Nat.le_refl _), rfl, fun l hl => by rw [I.list_inj hl hqx]; exact hx, fun l hl => by rw [I.list_inj hl hqy]; exact hy⟩, ⟨z'', ?_, ⟨u, u2, ?_⟩, ?_, ?_⟩, fun c hcm => ?_⟩
    · exact (sb.2 _ D.TIz).trans (hk _ _ D.TIz D.TITO D.TIi1 D.TIi2 hTI)
    · exact (sb.2 _ D.TOz).trans TO'
    · exact h1'.at fun o q => (sb.2 _ D.i1z).trans q
    · exact h2'.at fun o q => (sb.2 _ D.i2z).trans q
    · have hlt : c < s.heap.objs.size := by
        have e' : c = z ∨ c = TI ∨ c = TO ∨ c = i1 ∨ c = i2 := by simpa using hcm
        rcases e' with q | q | q | q | q
        · rw [q]; exact hzl
        · rw [q]; exact Heap.lt_size hTI
        · rw [q]; exact Heap.lt_size hTO
        · rw [q]; obtain ⟨_, e1, _⟩ := h1; exact Heap.lt_size e1
        · rw [q]; obtain ⟨_, e2, _⟩ := h2; exact Heap.lt_size e2
      rw [upd_ne (Nat.ne_of_lt hlt)]
      exact (hf c hcm).1
  done := by
    intro X hP hw hK hc i pins s σ H E I hf st hg
    subst hP hw hK
    obtain ⟨hz, hTI, ⟨x0, y0, hTO⟩, h1, h2⟩ := st
    obtain ⟨xs, ys, hqx, hqy, hend⟩ := hg
    obtain ⟨its, rv, p, _⟩ := I.list hqx
    obtain ⟨its2, rv2, p2, _⟩ := I.list hqy
    have l1 := rv.length
    have l2 := rv2.length
    have he : its.toArray[i]? = none ∨ its2.toArray[i]? = none := by
      rcases hend with q | q
      · exact .inl (by simp; omega)
      · exact .inr (by simp; omega)
    exact wpAny_pyNext_zip_end (I.ok.hd hc) D hz hTI hTO h1 h2 p.isList p2.isList he fun h' hk => ⟨rfl, I.turnedL (t' := s.toks) (ch := [z, TI, TO, i1, i2]) (fun c o hb q =>
      hk c o (fun q' => hb (by simp [q'])) (fun q' => hb (by simp [q'])) (fun q' => hb (by simp [q'])) (fun q' => hb (by simp [q'])) q) hf⟩
  self := fun A i s Q E st h => wpAny_pyIter_zip st.1 h
def iZip (K : PySem.W.Frag) (ta : TA) : TI := fun σ H R => ta σ H fun vs H1 => ∃ a b xs ys, vs = [.ref a, .ref b] ∧ SqL K H1 a xs ∧ SqL K H1 b ys ∧ R (Itz K a b) H1
theorem pi_zip {X : Cx} {e e2 : Expr} {ta : TA} {p pos tpos : Pos} {elts : List Expr} {kk : Nat} (hg : Gl X "zip") (hm : X.mg "zip" = none) (ha : PA X [e, e2] ta)
    (hs : starEach [e, e2] X.env = (false, eval e X.env) :: starEach [e2] X.env := by rfl) (hpl : (backTo pos (starEach [e2] X.env)).any (·.1) = false := by rfl) :
    PI X (.Tuple elts kk tpos) (.Call (.Name "zip" p) [e, e2] [] pos) (iZip X.K ta) := by
  intro pins s σ H R I h
  refine Call_ (ld_blt I hg hm boot_zip5 (PyProof.Rows.callWith_type1 (thn (ha pos pins s σ H _ I h) fun us s1 ⟨vs, H1, I1, r1, q1⟩ => ?_) hs hpl))
  obtain ⟨a, b, xs, ys, ex, hqx, hqy, q⟩ := q1
  subst ex
  cases r1 with
  | cons r rr =>
    cases rr with
    | cons r' rr =>
      cases rr
      cases r
      cases r'
      obtain ⟨its, rv, p1, _⟩ := I1.list hqx
      obtain ⟨its2, rv2, p2, _⟩ := I1.list hqy
      have la : a < s1.heap.objs.size := p1.lt
      have lb : b < s1.heap.objs.size := p2.lt
      refine call_zip_2 p1.isList p2.isList fun h' hz hTI hTO h1 h2 hsz hk => wpAny_pyIter_zip hz ?_
      have I2 : Inv X pins σ H1 { s1 with heap := h' } := I1.kept (t' := s1.toks) hk
      refine ⟨s1.heap.objs.size + 4, [s1.heap.objs.size + 4, s1.heap.objs.size + 2, s1.heap.objs.size + 3, s1.heap.objs.size, s1.heap.objs.size + 1], _, _, H1, rfl, I2, turn_zip (PySem.W.ktu_apart s1.heap.objs.size a b la lb), ⟨hz, hTI, ⟨_, _, hTO⟩, h1, h2⟩, fun c hcm => ?_, q⟩
      have e' : c = s1.heap.objs.size + 4 ∨ c = s1.heap.objs.size + 2 ∨ c = s1.heap.objs.size + 3 ∨ c = s1.heap.objs.size ∨ c = s1.heap.objs.size + 1 := by simpa using hcm
      have hle : s1.heap.objs.size ≤ c := by
        rcases e' with z | z | z | z | z
        · rw [z]; exact Nat.le_add_right _ _
        · rw [z]; exact Nat.le_add_right _ _
        · rw [z]; exact Nat.le_add_right _ _
        · rw [z]; exact Nat.le_refl _
        · rw [z]; exact Nat.le_add_right _ _
      exact I1.fpOk hle (I1.hok.fresh hle)
end L2
section
namespace Bits
open PySem PyProof.Rows
end Bits
end
section
namespace TL
open PySem PySem.Builtin PySem.Builtin.Str PySem.StrLaws
end TL
end
namespace L2
open PySem PySem.Spec PyProof.Rows
end L2
namespace L2
open PySem PySem.Spec PyProof.Rows
end L2
namespace Att
open PySem PySem.W PySem.Calls PyProof.Rows
end Att
namespace L2
open PySem PySem.Spec PyProof.Rows
end L2
namespace L2
open PySem PySem.Spec PyProof.Rows
end L2
namespace L2
open PySem PySem.Spec PyProof.Rows
def inClass (s : Stmt) (j : Nat) : Stmt := match s with
  | .ClassDef _ _ _ body _ _ _ _ _ _ _ => body.getD j (.Pass ⟨0, 0, 0, 0⟩)
  | _ => .Pass ⟨0, 0, 0, 0⟩
def defArgs (s : Stmt) : Arguments := match s with
  | .FunctionDef _ a _ _ _ _ _ _ _ _ => a
  | _ => { posonlyargs := [], args := [], vararg := none, kwonlyargs := [], kw_defaults := [], kwarg := none, defaults := [] }
def defBody (s : Stmt) : List Stmt := match s with
  | .FunctionDef _ _ b _ _ _ _ _ _ _ => b
  | _ => []
def defScope (s : Stmt) : Scope := match s with
  | .FunctionDef _ _ _ _ _ _ sc _ _ _ => sc
  | _ => { kind := .function, names := [], isGenerator := false, isCoroutine := false }
abbrev CX0 : CXT := fun _ _ _ _ _ _ => False
abbrev E0 : XK := fun _ _ _ => False
theorem pass0 {X : Cx} : Passes CX0 X E0 := fun _ _ _ _ _ _ _ h => h.elim
structure Fun (K : PySem.W.Frag) (x qual : Str) (st : Stmt) (f : Addr) (fd : FuncData) : Prop where
  ex : ∃ (oc : Value) (od : Option Addr) (kV doc pm : Value) (an : Option Addr) (cdv ct : Value) (osl : Array (Option Value)),
    fd = PySem.W.fnOf x qual (defArgs st) (defBody st) (defScope st) .none kV doc pm an cdv ct ∧ K.lookup f = some ⟨oc, od, .func fd, osl⟩ ∧ PySem.W.codeIn K cdv qual = true
  kp : PySem.W.keepIn K (.ref f) = true
section
variable {P : Program} {w : World} {K : PySem.W.Frag} {mg : Str → Option Value} {base : Heap}
theorem Fun.ok {x qual : Str} {st : Stmt} {f : Addr} {fd : FuncData} {N ps : List Str} {k : Nat} {sp : Sp} (F : Fun K x qual st f fd) (S : FnScope N ps (defScope st)) (len : ∀ vs H Q E, sp vs H Q E → vs.length = ps.length)
    (hbody : ∀ (cdv : Value) (A : Around) (outer : List Env) (s : Shared) (H : Hp) (vs : List V) (Q : VK) (E : XK), Room k (A.deeper (envOfC qual (defScope st) s.heap.objs.size f cdv)) → sp vs H Q E →
      ∃ t, PSs (cxOf CX0 P w K mg base N qual (defScope st) f cdv A outer s H E).nox (defBody st) t ∧ t { nx := fun _ H' => Q .non H', rt := Q } (start N vs) H) : FnOk P w K mg base CX0 (k + 1) f fd ps sp := by
  obtain ⟨oc, od, kV, doc, pm, an, cdv, ct, osl, rfl, lk, hcd⟩ := F.ex
  refine fn_of lk hcd S len fun A outer s H vs Q E hr hsp => ?_
  obtain ⟨t, h, q⟩ := hbody cdv A outer s H vs Q E hr hsp
  exact ⟨t, h.nox, q⟩
theorem Fun.binds {x qual : Str} {st : Stmt} {f : Addr} {fd : FuncData} {ps : List Str} (F : Fun K x qual st f fd)
    (h : ∀ (kV doc pm : Value) (an : Option Addr) (cdv ct : Value) (us : List Value), us.length = ps.length → bindArgs (PySem.W.fnOf x qual (defArgs st) (defBody st) (defScope st) .none kV doc pm an cdv ct) ⟨us, []⟩ = pure (ps.zip us)) : Binds K fd ps [] := by
  obtain ⟨oc, od, kV, doc, pm, an, cdv, ct, osl, rfl, lk, hcd⟩ := F.ex
  exact .all (h kV doc pm an cdv ct)
theorem fun_mk {x qual : Str} {st : Stmt} {f : Addr} {oc : Value} {od an : Option Addr} {osl : Array (Option Value)} {kV doc pm cdv ct : Value} (l : K.lookup f = some ⟨oc, od, .func (PySem.W.fnOf x qual (defArgs st) (defBody st) (defScope st) .none kV doc pm an cdv ct), osl⟩)
    (c : PySem.W.codeIn K cdv qual = true) (k : PySem.W.keepIn K (.ref f) = true) : Fun K x qual st f (PySem.W.fnOf x qual (defArgs st) (defBody st) (defScope st) .none kV doc pm an cdv ct) := ⟨⟨oc, od, kV, doc, pm, an, cdv, ct, osl, rfl, l, c⟩, k⟩
end
section
variable {X : Cx}
theorem pv (i : Nat) {x : Str} {pos : Pos} (hN : X.N[i]? = some x := by rfl) (hv : Vis X.env.scope x := by first | exact Or.inl rfl | exact Or.inr (Or.inl rfl) | exact Or.inr (Or.inr rfl)) (hd : (x == ("__debug__" : Str)) = false := by decide)
    (hcd : (x == ("__classdict__" : Str)) = false := by decide) : PE X (.Name x pos) (tVar i) := pe_var hN hv hd hcd
end
theorem iteF {A B : Prop} (h : B) : if false = true then A else B := by
  rw [if_neg Bool.false_ne_true]
  exact h
theorem iteT {A B : Prop} (h : A) : if true = true then A else B := by
  rw [if_pos rfl]
  exact h
def Same (H H' : Hp) : Prop := ∀ b o, H b = some o → H' b = some o
theorem Same.refl (H : Hp) : Same H H := fun _ _ h => h
theorem Same.trans {H H1 H2 : Hp} (a : Same H H1) (b : Same H1 H2) : Same H H2 := fun c o h => b c o (a c o h)
theorem Same.free {H H' : Hp} (e : Same H H') {l : Addr} (h : H' l = Option.none) : H l = Option.none := by
  cases q : H l with
  | none => rfl
  | some o =>
    rw [e l o q] at h
    cases h
theorem Same.seq {K : PySem.W.Frag} {H H' : Hp} {a : Addr} {xs : List V} (e : Same H H') (h : SqL K H a xs) : SqL K H' a xs := by
  rcases h with (h | ⟨o, h⟩) | h
  · exact .inl (.inl (e _ _ h))
  · exact .inl (.inr ⟨o, e _ _ h⟩)
  · exact .inr h
theorem Same.made {H H1 : Hp} {x dx C : Addr} (nx : H x = Option.none) (nd : H dx = Option.none) (k : ∀ b o, (upd (upd H dx (.own x)) x (.ins C dx [])) b = some o → b ≠ x → H1 b = some o) : Same H H1 := fun b o e =>
  k b o (by rw [upd_ne (ne_of_none e nx), upd_ne (ne_of_none e nd)]; exact e) (ne_of_none e nx)
end L2
end
section
section
set_option Elab.async false
set_option linter.all false
set_option maxRecDepth 100000
set_option maxHeartbeats 2000000
namespace L2
open PySem PySem.Spec PyProof.Rows
open PySem.W (WData Codec OpenSpec Well WellAll ReadsW ReadsAllW)
mutual
inductive Dw (K : PySem.W.Frag) (H : Hp) : V → WData → Prop
  | non : Dw K H .non .none
  | bl (b : Bool) : Dw K H (.bl b) (.bool b)
  | int (i : Int) : Dw K H (.int i) (.int i)
  | str (x : Str) : Dw K H (.str x) (.str x)
  | byt (b : Array UInt8) : Dw K H (.byt b) (.bytes b.toList)
  | lst {a : Addr} {xs : List V} {ds : List WData} : SqL K H a xs → DwAll K H xs ds → Dw K H (.ref a) (.list ds)
  | tup {a : Addr} {xs : List V} {ds : List WData} : SqT K H a xs → DwAll K H xs ds → Dw K H (.ref a) (.tuple ds)
inductive DwAll (K : PySem.W.Frag) (H : Hp) : List V → List WData → Prop
  | nil : DwAll K H [] []
  | cons {v : V} {vs : List V} {d : WData} {ds : List WData} : Dw K H v d → DwAll K H vs ds → DwAll K H (v :: vs) (d :: ds)
end
theorem dw_ints {K : PySem.W.Frag} {H : Hp} : ∀ ns : List Int, DwAll K H (ns.map V.int) (ns.map WData.int)
  | [] => .nil
  | n :: r => .cons (.int n) (dw_ints r)
theorem ints_dw {K : PySem.W.Frag} {H : Hp} : ∀ (ns : List Int) (xs : List V), DwAll K H xs (ns.map WData.int) → xs = ns.map V.int
  | [], xs, h => by
    cases h
    rfl
  | n :: r, xs, h => by
    cases h with
    | cons h1 h2 =>
      cases h1
      rw [ints_dw r _ h2] <;> rfl
section
variable {P : Program} {w : World} {K : PySem.W.Frag} {H : Hp} {h : Heap} {R : PySem.W.WRecords} {cl : Str → Option Addr}
theorem sqL_at {a : Addr} {xs : List V} (hok : HOk P w H h) (KX : K.In h) (q : SqL K H a xs) : ∃ (its : List Value) (o : Obj) (n : Nat), Vals xs its ∧ h.get? a = some o ∧ o.cls = .type "list" ∧ o.data = .seq its.toArray n := by
  rcases q with q | ⟨o, its, n, e, hc, _, hd, _, hv⟩
  · obtain ⟨_, its, n, hv, e⟩ := (show ObjOk P w H h a (.lst xs) from q.ok hok)
    exact ⟨its, _, n, hv, e, rfl, rfl⟩
  · exact ⟨its.toList, o, n, hv, KX _ _ e, hc, by simp [hd]⟩
theorem sqT_at {a : Addr} {xs : List V} (hok : HOk P w H h) (KX : K.In h) (q : SqT K H a xs) : ∃ (its : List Value) (o : Obj) (n : Nat), Vals xs its ∧ h.get? a = some o ∧ o.cls = .type "tuple" ∧ o.data = .seq its.toArray n := by
  rcases q with q | ⟨o, its, n, e, hc, hd, _, hv⟩
  · obtain ⟨_, its, hv, o, e, hc, n, hd⟩ := (show ObjOk P w H h a (.tup xs) from q.ok hok)
    exact ⟨its, o, n, hv, e, hc, hd⟩
  · exact ⟨its.toList, o, n, hv, KX _ _ e, hc, by simp [hd]⟩
mutual
theorem Dw.reads (hok : HOk P w H h) (KX : K.In h) : ∀ (d : WData) (v : V) (u : Value), Dw K H v d → RelV v u → ∃ as, ReadsW R cl h u d as
  | .none, _, _, x, r => by
    cases x
    cases r
    exact ⟨_, ReadsW.none⟩
  | .bool b, _, _, x, r => by
    cases x
    cases r
    exact ⟨_, ReadsW.bool b⟩
  | .int i, _, _, x, r => by
    cases x
    obtain ⟨t, rfl⟩ := r
    exact ⟨_, ReadsW.int i t⟩
  | .str s, _, _, x, r => by
    cases x
    obtain ⟨t, rfl⟩ := r
    exact ⟨_, ReadsW.str s t⟩
  | .bytes b, _, _, x, r => by
    cases x
    obtain ⟨t, rfl⟩ := r
    exact ⟨_, ReadsW.bytes _ t⟩
  | .list ds, _, _, x, r => by
    cases x with
    | lst hs ha =>
      cases r
      obtain ⟨its, o, n, rv, ho, hc, hd⟩ := sqL_at hok KX hs
      obtain ⟨as, hr⟩ := Dw.readsAll hok KX ds _ its ha rv
      exact ⟨_, ReadsW.list ho hc hd hr⟩
  | .tuple ds, _, _, x, r => by
    cases x with
    | tup hs ha =>
      cases r
      obtain ⟨its, o, n, rv, ho, hc, hd⟩ := sqT_at hok KX hs
      obtain ⟨as, hr⟩ := Dw.readsAll hok KX ds _ its ha rv
      exact ⟨_, ReadsW.tuple ho hc hd hr⟩
  | .float _, _, _, x, _ => by cases x
  | .dict _, _, _, x, _ => by cases x
  | .bytearray _, _, _, x, _ => by cases x
  | .set _, _, _, x, _ => by cases x
  | .frozenset _, _, _, x, _ => by cases x
  | .obj _ _, _, _, x, _ => by cases x
theorem Dw.readsAll (hok : HOk P w H h) (KX : K.In h) : ∀ (ds : List WData) (vs : List V) (us : List Value), DwAll K H vs ds → Vals vs us → ∃ as, ReadsAllW R cl h us ds as
  | [], _, _, x, r => by
    cases x
    cases r
    exact ⟨_, ReadsAllW.nil⟩
  | d :: ds, _, _, x, r => by
    cases x with
    | cons h1 h2 =>
      cases r with
      | cons r1 r2 =>
        obtain ⟨as, q1⟩ := Dw.reads hok KX d _ _ h1 r1
        obtain ⟨bs, q2⟩ := Dw.readsAll hok KX ds _ _ h2 r2
        exact ⟨_, ReadsAllW.cons q1 q2⟩
end
end
mutual
def plW : WData → Bool
  | .none => true
  | .bool _ => true
  | .int _ => true
  | .str _ => true
  | .bytes _ => true
  | .list xs => plWs xs
  | .tuple xs => plWs xs
  | _ => false
def plWs : List WData → Bool
  | [] => true
  | x :: r => plW x && plWs r
end
theorem plWs_map {α : Type} {f : α → WData} (h : ∀ a, plW (f a) = true) : ∀ l : List α, plWs (l.map f) = true
  | [] => rfl
  | x :: r => by
    show (plW (f x) && plWs (r.map f)) = true
    rw [h x, plWs_map h r] <;> rfl
theorem pl_enc : ∀ (c : Codec) (a : c.denote), plW (c.enc a) = true
  | .unit, _ => rfl
  | .bool, _ => rfl
  | .int _ _, _ => rfl
  | .nat _ _, _ => rfl
  | .u8, _ => rfl
  | .bytes _ _, _ => rfl
  | .text _ _ _ _, _ => rfl
  | .list _ _ c, a => plWs_map (fun x => pl_enc c x) a
  | .pair c d, a => by
    show (plW (c.enc a.1) && (plW (d.enc a.2) && true)) = true
    rw [pl_enc c a.1, pl_enc d a.2] <;> rfl
  | .triple c d e, a => by
    show (plW (c.enc a.1) && (plW (d.enc a.2.1) && (plW (e.enc a.2.2) && true))) = true
    rw [pl_enc c a.1, pl_enc d a.2.1, pl_enc e a.2.2] <;> rfl
  | .option c, none => rfl
  | .option c, some x => pl_enc c x
theorem pl_encAll : ∀ (cs : List Codec) (a : Codec.denoteAll cs), plWs (Codec.encAll cs a) = true
  | [], _ => rfl
  | c :: cs, a => by
    show (plW (c.enc a.1) && plWs (Codec.encAll cs a.2)) = true
    rw [pl_enc c a.1, pl_encAll cs a.2] <;> rfl
theorem weight_mem : ∀ {xs : List WData} {d : WData}, d ∈ xs → d.weight ≤ WData.weightAll xs
  | [], d, h => absurd h (by simp)
  | x :: r, d, h => by
    show d.weight ≤ x.weight + 1 + WData.weightAll r
    rcases List.mem_cons.mp h with e | m
    · rw [e]
      omega
    · have z := weight_mem m
      omega
def toV : Value → V
  | .none => .non
  | .bool b => .bl b
  | .int i _ => .int i
  | .str x _ => .str x
  | .bytes b _ => .byt b
  | .ref a => .ref a
  | _ => .non
def OkU (A : List Addr) : Value → Prop
  | .none => True
  | .bool _ => True
  | .int _ _ => True
  | .str _ _ => True
  | .bytes _ _ => True
  | .ref a => a ∈ A
  | _ => False
theorem OkU.mono {A B : List Addr} (h : ∀ a ∈ A, a ∈ B) : ∀ {u : Value}, OkU A u → OkU B u := fun {u} x => by
  cases u with
  | ref a => exact h a x
  | none => trivial
  | bool b => trivial
  | int i t => trivial
  | str s t => trivial
  | bytes b t => trivial
  | _ => exact False.elim x
theorem relV_toV {A : List Addr} {u : Value} (x : OkU A u) : RelV (toV u) u := by
  cases u with
  | ref a => rfl
  | none => rfl
  | bool b => rfl
  | int i t => exact ⟨t, rfl⟩
  | str s t => exact ⟨t, rfl⟩
  | bytes b t => exact ⟨t, rfl⟩
  | _ => exact False.elim x
theorem vals_toV {A : List Addr} : ∀ {vs : List Value}, (∀ u ∈ vs, OkU A u) → Vals (vs.map toV) vs
  | [], _ => .nil
  | u :: r, h => .cons (relV_toV (h u (List.mem_cons_self ..))) (vals_toV fun x hx => h x (List.mem_cons_of_mem _ hx))
def ArgOb (h : Heap) (A : List Addr) (a : Addr) : Prop := ∃ vs : List Value, vs.length ≤ sizeLine ∧ (∀ u ∈ vs, OkU A u) ∧
  (h.get? a = some { cls := .type "list", data := .seq vs.toArray } ∨ h.get? a = some { cls := .type "tuple", data := .seq vs.toArray })
theorem ArgOb.mono {h : Heap} {A B : List Addr} {a : Addr} (k : ∀ a ∈ A, a ∈ B) (x : ArgOb h A a) : ArgOb h B a := by
  obtain ⟨vs, h1, h2, h3⟩ := x
  exact ⟨vs, h1, fun u hu => (h2 u hu).mono k, h3⟩
theorem wellAll_len {P : Params} {h : Heap} : ∀ {vs : List Value} {ds : List WData}, WellAll P h vs ds → vs.length = ds.length
  | _, _, .nil => rfl
  | _, _, .cons _ b => by
    show _ + 1 = _ + 1
    rw [wellAll_len b]
theorem well_list {P : Params} {h : Heap} {v : Value} {ds : List WData} (x : Well P h v (.list ds)) : ∃ (a : Addr) (vs : List Value), v = .ref a ∧ h.get? a = some { cls := .type "list", data := .seq vs.toArray } ∧ WellAll P h vs ds := by
  cases x with
  | list ho hall => exact ⟨_, _, rfl, ho, hall⟩
theorem well_tuple {P : Params} {h : Heap} {v : Value} {ds : List WData} (x : Well P h v (.tuple ds)) : ∃ (a : Addr) (vs : List Value), v = .ref a ∧ h.get? a = some { cls := .type "tuple", data := .seq vs.toArray } ∧ WellAll P h vs ds := by
  cases x with
  | tuple ho hall => exact ⟨_, _, rfl, ho, hall⟩
theorem well_cons {P : Params} {h : Heap} {us : List Value} {d : WData} {ds : List WData} (x : WellAll P h us (d :: ds)) : ∃ (v : Value) (vs : List Value), us = v :: vs ∧ Well P h v d ∧ WellAll P h vs ds := by
  cases x with
  | cons a b => exact ⟨_, _, rfl, a, b⟩
theorem line_of {n : Nat} (h : n ≤ 1048576) : n ≤ sizeLine := Nat.le_trans h (by decide)
section
variable {P : Params} {h : Heap}
mutual
theorem area_one : ∀ (d : WData) (v : Value), Well P h v d → plW d = true → d.weight ≤ 1048576 → ∃ A : List Addr, OkU A v ∧ ∀ a ∈ A, ArgOb h A a
  | .none, _, x, _, _ => by
    cases x
    exact ⟨[], trivial, fun a m => absurd m (by simp)⟩
  | .bool b, _, x, _, _ => by
    cases x
    exact ⟨[], trivial, fun a m => absurd m (by simp)⟩
  | .int i, _, x, _, _ => by
    cases x
    exact ⟨[], trivial, fun a m => absurd m (by simp)⟩
  | .str s, _, x, _, _ => by
    cases x
    exact ⟨[], trivial, fun a m => absurd m (by simp)⟩
  | .bytes b, _, x, _, _ => by
    cases x
    exact ⟨[], trivial, fun a m => absurd m (by simp)⟩
  | .list ds, _, x, p, z => by
    obtain ⟨a, vs, rfl, ho, hall⟩ := well_list x
    have z2 : WData.weightAll ds ≤ 1048576 := z
    obtain ⟨A, h1, h2⟩ := area_all ds _ hall p fun d hd => Nat.le_trans (weight_mem hd) z2
    have k : ∀ b ∈ A, b ∈ a :: A := fun b hb => List.mem_cons_of_mem _ hb
    refine ⟨a :: A, List.mem_cons_self .., fun b hb => ?_⟩
    rcases List.mem_cons.mp hb with e | m
    · rw [e]
      exact ⟨vs, line_of (by rw [wellAll_len hall]; exact Nat.le_trans (PySem.W.length_le_weightAllW ds) z2), fun u hu => (h1 u hu).mono k, .inl ho⟩
    · exact (h2 b m).mono k
  | .tuple ds, _, x, p, z => by
    obtain ⟨a, vs, rfl, ho, hall⟩ := well_tuple x
    have z2 : WData.weightAll ds ≤ 1048576 := z
    obtain ⟨A, h1, h2⟩ := area_all ds _ hall p fun d hd => Nat.le_trans (weight_mem hd) z2
    have k : ∀ b ∈ A, b ∈ a :: A := fun b hb => List.mem_cons_of_mem _ hb
    refine ⟨a :: A, List.mem_cons_self .., fun b hb => ?_⟩
    rcases List.mem_cons.mp hb with e | m
    · rw [e]
      exact ⟨vs, line_of (by rw [wellAll_len hall]; exact Nat.le_trans (PySem.W.length_le_weightAllW ds) z2), fun u hu => (h1 u hu).mono k, .inr ho⟩
    · exact (h2 b m).mono k
  | .float _, _, _, p, _ => Bool.noConfusion (show false = true from p)
  | .dict _, _, _, p, _ => Bool.noConfusion (show false = true from p)
  | .bytearray _, _, _, p, _ => Bool.noConfusion (show false = true from p)
  | .set _, _, _, p, _ => Bool.noConfusion (show false = true from p)
  | .frozenset _, _, _, p, _ => Bool.noConfusion (show false = true from p)
  | .obj _ _, _, _, p, _ => Bool.noConfusion (show false = true from p)
theorem area_all : ∀ (ds : List WData) (vs : List Value), WellAll P h vs ds → plWs ds = true → (∀ d ∈ ds, d.weight ≤ 1048576) → ∃ A : List Addr, (∀ u ∈ vs, OkU A u) ∧ ∀ a ∈ A, ArgOb h A a
  | [], _, x, _, _ => by
    cases x
    exact ⟨[], fun u m => absurd m (by simp), fun a m => absurd m (by simp)⟩
  | d :: ds, _, x, p, z => by
    obtain ⟨v, vs, rfl, x1, x2⟩ := well_cons x
    have q : plW d = true ∧ plWs ds = true := Bool.and_eq_true_iff.mp p
    obtain ⟨A, a1, a2⟩ := area_one d v x1 q.1 (z d (List.mem_cons_self ..))
    obtain ⟨B, b1, b2⟩ := area_all ds vs x2 q.2 fun e he => z e (List.mem_cons_of_mem _ he)
    have kA : ∀ b ∈ A, b ∈ A ++ B := fun b hb => List.mem_append.mpr (.inl hb)
    have kB : ∀ b ∈ B, b ∈ A ++ B := fun b hb => List.mem_append.mpr (.inr hb)
    refine ⟨A ++ B, fun u hu => ?_, fun b hb => ?_⟩
    · rcases List.mem_cons.mp hu with e | m
      · rw [e]
        exact a1.mono kA
      · exact (b1 u m).mono kB
    · rcases List.mem_append.mp hb with m | m
      · exact (a2 b m).mono kA
      · exact (b2 b m).mono kB
end
end
def hoOf (o : Obj) : Option HO := match o.data with
  | .seq vs _ => if (o.cls == Value.type "list") = true then some (.frz o (.lst (vs.toList.map toV))) else some (.frz o (.tup (vs.toList.map toV)))
  | _ => none
def argH (K : PySem.W.Frag) (h : Heap) (A : List Addr) : Hp := fun b => if b ∈ A then (if (K.lookup b).isNone = true then (h.get? b).bind hoOf else none) else none
def OnlyF (H : Hp) : Prop := ∀ b, H b = none ∨ ∃ o u, H b = some (.frz o u)
theorem hoOf_lst (vs : List Value) : hoOf { cls := .type "list", data := .seq vs.toArray } = some (.frz { cls := .type "list", data := .seq vs.toArray } (.lst (vs.map toV))) := by
  show (if (Value.type "list" == Value.type "list") = true then some (HO.frz { cls := .type "list", data := .seq vs.toArray } (.lst (vs.toArray.toList.map toV))) else some (HO.frz { cls := .type "list", data := .seq vs.toArray } (.tup (vs.toArray.toList.map toV)))) = _
  rw [if_pos (beq_self_eq_true _)]
theorem hoOf_tup (vs : List Value) : hoOf { cls := .type "tuple", data := .seq vs.toArray } = some (.frz { cls := .type "tuple", data := .seq vs.toArray } (.tup (vs.map toV))) := by
  show (if (Value.type "tuple" == Value.type "list") = true then some (HO.frz { cls := .type "tuple", data := .seq vs.toArray } (.lst (vs.toArray.toList.map toV))) else some (HO.frz { cls := .type "tuple", data := .seq vs.toArray } (.tup (vs.toArray.toList.map toV)))) = _
  rw [if_neg (by decide)]
section
variable {P : Program} {w : World} {K : PySem.W.Frag} {h : Heap} {A : List Addr}
theorem argH_at {b : Addr} {o : Obj} (hb : b ∈ A) (hk : K.lookup b = none) (e : h.get? b = some o) : argH K h A b = hoOf o := by
  unfold argH
  rw [if_pos hb, hk, if_pos (show (none : Option Obj).isNone = true from rfl), e] <;> rfl
theorem of_argH {b : Addr} {u : HO} (q : argH K h A b = some u) : b ∈ A ∧ K.lookup b = none := by
  unfold argH at q
  by_cases hb : b ∈ A
  · rw [if_pos hb] at q
    cases hk : K.lookup b with
    | none => exact ⟨hb, rfl⟩
    | some o =>
      rw [hk, if_neg (by simp)] at q
      cases q
  · rw [if_neg hb] at q
    cases q
theorem argH_is (ar : ∀ a ∈ A, ArgOb h A a) {b : Addr} {u : HO} (q : argH K h A b = some u) : K.lookup b = none ∧ ∃ vs : List Value, vs.length ≤ sizeLine ∧ (∀ u ∈ vs, OkU A u) ∧
    ((h.get? b = some { cls := .type "list", data := .seq vs.toArray } ∧ u = .frz { cls := .type "list", data := .seq vs.toArray } (.lst (vs.map toV))) ∨
     (h.get? b = some { cls := .type "tuple", data := .seq vs.toArray } ∧ u = .frz { cls := .type "tuple", data := .seq vs.toArray } (.tup (vs.map toV)))) := by
  obtain ⟨hb, hk⟩ := of_argH q
  obtain ⟨vs, h1, h2, h3⟩ := ar b hb
  refine ⟨hk, vs, h1, h2, ?_⟩
  rcases h3 with e | e
  · rw [argH_at hb hk e, hoOf_lst] at q
    exact .inl ⟨e, (Option.some.inj q).symm⟩
  · rw [argH_at hb hk e, hoOf_tup] at q
    exact .inr ⟨e, (Option.some.inj q).symm⟩
theorem argH_only (ar : ∀ a ∈ A, ArgOb h A a) : OnlyF (argH K h A) := fun b => by
  cases q : argH K h A b with
  | none => exact .inl rfl
  | some u =>
    obtain ⟨_, vs, _, _, ⟨_, e⟩ | ⟨_, e⟩⟩ := argH_is ar q
    · exact .inr ⟨_, _, by rw [e]⟩
    · exact .inr ⟨_, _, by rw [e]⟩
theorem argH_ok (ar : ∀ a ∈ A, ArgOb h A a) : HOk P w (argH K h A) h := fun b u q => by
  obtain ⟨_, vs, h1, h2, ⟨e, rfl⟩ | ⟨e, rfl⟩⟩ := argH_is ar q
  · exact ⟨e, by rw [List.length_map]; exact h1, vs, _, vals_toV h2, e⟩
  · exact ⟨e, by rw [List.length_map]; exact h1, vs, vals_toV h2, _, e, rfl, _, rfl⟩
theorem seq_inj {c c' : Value} {vs us : List Value} (e : (some { cls := c, data := .seq vs.toArray } : Option Obj) = some { cls := c', data := .seq us.toArray }) : c = c' ∧ vs = us := by
  have e1 := Option.some.inj e
  have e2 : c = c' := congrArg Obj.cls e1
  have e3 : Data.seq vs.toArray = Data.seq us.toArray := congrArg Obj.data e1
  injection e3 with e4
  refine ⟨e2, ?_⟩
  have e5 := congrArg Array.toList e4
  simpa using e5
theorem argL (KX : K.In h) (ar : ∀ a ∈ A, ArgOb h A a) {a : Addr} {vs : List Value} (ha : a ∈ A) (e : h.get? a = some { cls := .type "list", data := .seq vs.toArray }) : (∀ u ∈ vs, OkU A u) ∧ SqL K (argH K h A) a (vs.map toV) := by
  obtain ⟨us, h1, h2, h3⟩ := ar a ha
  have hu : us = vs := by
    rcases h3 with q | q
    · rw [e] at q
      exact (seq_inj q).2.symm
    · rw [e] at q
      exact absurd (Value.type.inj (seq_inj q).1) (by decide)
  subst hu
  refine ⟨h2, ?_⟩
  cases hk : K.lookup a with
  | none => exact .inl (.inr ⟨_, by rw [argH_at ha hk e, hoOf_lst]⟩)
  | some o =>
    have e2 := KX a o hk
    rw [e] at e2
    obtain rfl := Option.some.inj e2
    exact .inr ⟨_, us.toArray, _, hk, rfl, rfl, rfl, by rw [List.size_toArray]; exact h1, by simpa using vals_toV h2⟩
theorem argT (KX : K.In h) (ar : ∀ a ∈ A, ArgOb h A a) {a : Addr} {vs : List Value} (ha : a ∈ A) (e : h.get? a = some { cls := .type "tuple", data := .seq vs.toArray }) : (∀ u ∈ vs, OkU A u) ∧ SqT K (argH K h A) a (vs.map toV) := by
  obtain ⟨us, h1, h2, h3⟩ := ar a ha
  have hu : us = vs := by
    rcases h3 with q | q
    · rw [e] at q
      exact absurd (Value.type.inj (seq_inj q).1) (by decide)
    · rw [e] at q
      exact (seq_inj q).2.symm
  subst hu
  refine ⟨h2, ?_⟩
  cases hk : K.lookup a with
  | none => exact .inl (.inr ⟨_, by rw [argH_at ha hk e, hoOf_tup]⟩)
  | some o =>
    have e2 := KX a o hk
    rw [e] at e2
    obtain rfl := Option.some.inj e2
    exact .inr ⟨_, us.toArray, _, hk, rfl, rfl, by rw [List.size_toArray]; exact h1, by simpa using vals_toV h2⟩
mutual
theorem dw_one {Pm : Params} (KX : K.In h) (ar : ∀ a ∈ A, ArgOb h A a) : ∀ (d : WData) (v : Value), Well Pm h v d → plW d = true → OkU A v → Dw K (argH K h A) (toV v) d
  | .none, _, x, _, _ => by
    cases x
    exact .non
  | .bool b, _, x, _, _ => by
    cases x
    exact .bl b
  | .int i, _, x, _, _ => by
    cases x
    exact .int i
  | .str s, _, x, _, _ => by
    cases x
    exact .str s
  | .bytes b, _, x, _, _ => by
    cases x
    have z := Dw.byt (K := K) (H := argH K h A) b.toArray
    exact z
  | .list ds, _, x, p, hu => by
    obtain ⟨a, vs, rfl, ho, hall⟩ := well_list x
    obtain ⟨h2, hs⟩ := argL KX ar hu ho
    exact .lst hs (dw_all KX ar ds _ hall p h2)
  | .tuple ds, _, x, p, hu => by
    obtain ⟨a, vs, rfl, ho, hall⟩ := well_tuple x
    obtain ⟨h2, hs⟩ := argT KX ar hu ho
    exact .tup hs (dw_all KX ar ds _ hall p h2)
  | .float _, _, _, p, _ => Bool.noConfusion (show false = true from p)
  | .dict _, _, _, p, _ => Bool.noConfusion (show false = true from p)
  | .bytearray _, _, _, p, _ => Bool.noConfusion (show false = true from p)
  | .set _, _, _, p, _ => Bool.noConfusion (show false = true from p)
  | .frozenset _, _, _, p, _ => Bool.noConfusion (show false = true from p)
  | .obj _ _, _, _, p, _ => Bool.noConfusion (show false = true from p)
theorem dw_all {Pm : Params} (KX : K.In h) (ar : ∀ a ∈ A, ArgOb h A a) : ∀ (ds : List WData) (vs : List Value), WellAll Pm h vs ds → plWs ds = true → (∀ u ∈ vs, OkU A u) → DwAll K (argH K h A) (vs.map toV) ds
  | [], _, x, _, _ => by
    cases x
    exact .nil
  | d :: ds, _, x, p, hu => by
    obtain ⟨v, vs, rfl, x1, x2⟩ := well_cons x
    have q : plW d = true ∧ plWs ds = true := Bool.and_eq_true_iff.mp p
    exact .cons (dw_one KX ar d v x1 q.1 (hu _ (List.mem_cons_self ..))) (dw_all KX ar ds vs x2 q.2 fun u m => hu u (List.mem_cons_of_mem _ m))
end
end
theorem spec_call {P : Program} {w : World} {K : PySem.W.Frag} {mg mb : Str → Option Value} {CX : CXT} {k : Nat} {fa : Addr} {fd : FuncData} {ps : List Str} {sp : Sp} {s₁ : Shared} {vals : List Value} {ds : List WData} {R : PySem.W.WRecords} {cl : Str → Option Addr} {d0 : WData}
    (KX : K.In s₁.heap) (hns : s₁.heap.Ns mainGlobals mg) (hb : s₁.heap.Ns builtinsNs mb) (hbb : ∀ x : Str, x ≠ "__name__" → mb x = bootBuiltins x) (hlim : s₁.heap.NoLimit) (hg : s₁.gens = #[])
    (hwl : WellAll w.params s₁.heap vals ds) (hpl : plWs ds = true) (hwt : ∀ d ∈ ds, d.weight ≤ 1048576) (hr : Room k callerA)
    (F : ∀ base : Heap, K.In base → base.Ns mainGlobals mg → FnOk P w K mg base CX k fa fd ps sp) (hbind : ∀ (s : Shared) (us : List Value), us.length = ps.length → BindsTo s fd ⟨us, []⟩ (ps.zip us)) (hlen : ds.length = ps.length)
    (hsp : ∀ (H : Hp) (xs : List V), OnlyF H → DwAll K H xs ds → sp xs H (fun v H' => Dw K H' v d0) fun _ _ _ => False)
    (hCX : ∀ H e s', CX [] H s₁ (fun _ _ _ => False) e s' → False) :
    codeAny (model P w) callerA (.call (.ref fa) ⟨vals, []⟩) (fun r s' => ∃ u as, r = .ok (.ret u) ∧ ReadsW R cl s'.heap u d0 as ∧ OldK s₁.heap s'.heap ∧ s'.os = s₁.os ∧ AllBare s'.gens) s₁ := by
  obtain ⟨A, ho, ar⟩ := area_all ds vals hwl hpl hwt
  have hO : OnlyF (argH K s₁.heap A) := argH_only ar
  have hok : HOk P w (argH K s₁.heap A) s₁.heap := argH_ok ar
  have hS := dw_all KX ar ds vals hwl hpl ho
  have hV := vals_toV ho
  have hK : ∀ b u, argH K s₁.heap A b = some u → K.lookup b = none := fun b u q => (argH_is ar q).1
  have noA : ∀ {b : Addr} {o : Obj} {es : Array DictEntry} {ep : Nat}, s₁.heap.get? b = some o → o.data = .dict es ep → argH K s₁.heap A b = none := fun {b o es ep} e d => by
    cases q : argH K s₁.heap A b with
    | none => rfl
    | some u =>
      obtain ⟨_, vs, _, _, ⟨e2, _⟩ | ⟨e2, _⟩⟩ := argH_is ar q
      · rw [e2] at e
        cases e
        have d' : Data.seq vs.toArray _ = Data.dict es ep := d
        cases d'
      · rw [e2] at e
        cases e
        have d' : Data.seq vs.toArray _ = Data.dict es ep := d
        cases d'
  generalize argH K s₁.heap A = H at hO hok hS hK noA
  have base_of : ∀ {b : Addr} {o : Obj}, s₁.heap.get? b = some o → H b = none → (hidT s₁.heap H).get? b = some o := fun e n => hidT_get e n
  have nsK : ∀ {b : Addr} {m : Str → Option Value}, s₁.heap.Ns b m → (hidT s₁.heap H).Ns b m := fun {b m} ⟨o, es, ep, e, d, r⟩ => ⟨o, es, ep, base_of e (noA e d), d, r⟩
  have nK : ∀ b o, K.lookup b = some o → H b = none := fun b o e => by
    cases q : H b with
    | none => rfl
    | some u =>
      rw [hK b u q] at e
      cases e
  have hKb : K.In (hidT s₁.heap H) := fun b o e => base_of (KX b o e) (nK b o e)
  have hM : Mod K mg (hidT s₁.heap H) := ⟨hKb, nsK hns, ⟨mb, nsK hb, hbb⟩, let ⟨mc, h1, h2⟩ := hlim; ⟨mc, nsK h1, h2⟩⟩
  have e0 : Env0 P w K mg (hidT s₁.heap H) callerA [] s₁ H := ⟨rfl, hM, fun b o e => of_hidT e, Nat.le_of_eq (hidT_size _ _), trivial, fun b hb => absurd (show b ∈ ([] : List Addr) from hb) (by simp), hok, .of_eq hg⟩
  have hl : vals.length = ps.length := by rw [wellAll_len hwl]; exact hlen
  refine codeAny_mono ((F _ hKb (nsK hns)).run callerA [] s₁ H ⟨vals, []⟩ vals (vals.map toV) _ _ hr e0 (hbind s₁ vals hl) hV (hsp H _ hO hS)) fun r s' x => ?_
  cases r with
  | error e => exact (hCX H e s' x).elim
  | ok fl =>
    cases fl with
    | next => exact False.elim x
    | brk => exact False.elim x
    | cont => exact False.elim x
    | ret u =>
      obtain ⟨v, H', os, bare, un, hok', r', q⟩ := x
      have kept : ∀ b o, s₁.heap.get? b = some o → s'.heap.get? b = some o := fun b o e => by
        cases q2 : H b with
        | none => exact un.keep b o e q2 (by intro z; exact absurd (show b ∈ ([] : List Addr) from z) (by simp)) (by simp)
        | some u2 =>
          rcases hO b with z | ⟨ob, u3, z⟩
          · rw [q2] at z
            cases z
          · have z2 := un.frzs b ob _ z
            obtain ⟨e1, _⟩ := hok b _ z
            obtain ⟨e2, _⟩ := hok' b _ z2
            rw [e] at e1
            cases e1
            exact e2
      have KX' : K.In s'.heap := fun b o e => kept b o (KX b o e)
      obtain ⟨as, hrd⟩ := Dw.reads (R := R) (cl := cl) hok' KX' d0 v u q r'
      exact ⟨u, as, rfl, hrd, OldK.of_keep kept, os, bare⟩
theorem layable_weight {ds : List WData} (h : WData.layableAll ds = true) : ∀ d ∈ ds, d.weight ≤ 1048576 := fun d hd =>
  (PySem.W.layableW_iff.mp (List.all_eq_true.mp h d hd)).2.2
theorem encAll_len : ∀ (cs : List Codec) (a : Codec.denoteAll cs), (Codec.encAll cs a).length = cs.length
  | [], _ => rfl
  | c :: cs, a => by
    show (Codec.encAll cs a.2).length + 1 = cs.length + 1
    rw [encAll_len cs a.2]
theorem walk_spec {r : OpenSpec} {k : Nat} {q : Program} {loose : List Str} {XP : (Str → Option Value) → Heap → Prop} {YP : World → Heap → Prop} {d : DefRec} {K : Params → PySem.W.Frag} {CX : World → CXT} {ps : List Str} {sp : World → Sp}
    (hwell : r.wellSaid = true) (hdf : d.params.defaults = []) (hlen : r.args.length = ps.length) (hr : Room k callerA)
    (hY : ∀ (w : World) (h : Heap), YP w h → (K w.params).In h)
    (F : ∀ (w : World) (mg : Str → Option Value) (fa : Addr) (h : Heap), YP w h → (K w.params).In h → h.Ns mainGlobals mg → mg d.name = some (.ref fa) →
      ∃ fd : FuncData, (∀ (s : Shared) (us : List Value), us.length = ps.length → BindsTo s fd ⟨us, []⟩ (ps.zip us)) ∧
        ∀ base : Heap, (K w.params).In base → base.Ns mainGlobals mg → FnOk r.prog w (K w.params) mg base (CX w) k fa fd ps (sp w))
    (hsp : ∀ (w : World) (H : Hp) (xs : List V) (a : Codec.denoteAll r.args), OnlyF H → Codec.withinAll r.args a = true → Codec.app r.args r.asked a = true → DwAll (K w.params) H xs (Codec.encAll r.args a) →
      sp w xs H (fun v H' => Dw (K w.params) H' v (r.ret.enc (Codec.app r.args r.f a))) fun _ _ _ => False)
    (hCX : ∀ (w : World) (H : Hp) (s : Shared) (e : Value) (s' : Shared), CX w [] H s (fun _ _ _ => False) e s' → False) :
    PySem.W.WalkOS q loose XP YP r d [] (fun f vs => PySem.call f vs) := by
  intro w s_0 s₁ mg mb G Y fa o pm cd doc dV kV ho hd hcd hD hmg hg args vals as hpre hlay hrd hwl hlo
  obtain ⟨a, e1, e2⟩ := PySem.W.os_pre_some hpre
  obtain ⟨e3, hwi⟩ := Codec.encAll_of_decAll r.args args a e1
  subst e3
  have KX := hY w _ Y
  obtain ⟨fd, hb, hF⟩ := F w mg fa _ Y KX G.T.g hmg
  refine PySem.W.enter_call (codeAny_mono (spec_call (R := []) (cl := classAt s_0.heap) (d0 := r.ret.enc (Codec.app r.args r.f a)) KX G.T.g G.T.b G.T.builtins G.T.nolimit hg hwl (pl_encAll _ _) (layable_weight hlay) hr hF hb (by rw [encAll_len]; exact hlen)
    (fun H xs hO hS => hsp w H xs a hO hwi e2 hS) fun H e s' => hCX w H s₁ e s') fun r' s' hq => ?_)
  obtain ⟨u, as', rfl, h1, h2, h3, h4⟩ := hq
  exact ⟨.inl ⟨u, _, as', rfl, fun _ => rfl, h1, (OpenSpec.post_iff hwell hwi _ _).mpr rfl, fun z => Bool.noConfusion (show false = true from z)⟩, h2, h3, h4⟩
theorem walk_specK {r : OpenSpec} {k : Nat} {q : Program} {loose : List Str} {XP : (Str → Option Value) → Heap → Prop} {YP : World → Heap → Prop} {d : DefRec} {K : Params → PySem.W.Frag} {CX : CXT} {ps : List Str} {sp : PySem.W.Frag → Sp}
    (hwell : r.wellSaid = true) (hdf : d.params.defaults = []) (hlen : r.args.length = ps.length) (hr : Room k callerA)
    (hY : ∀ (w : World) (h : Heap), YP w h → (K w.params).In h)
    (F : ∀ (w : World) (mg : Str → Option Value) (fa : Addr) (h : Heap), YP w h → (K w.params).In h → h.Ns mainGlobals mg → mg d.name = some (.ref fa) →
      ∃ fd : FuncData, (∀ (s : Shared) (us : List Value), us.length = ps.length → BindsTo s fd ⟨us, []⟩ (ps.zip us)) ∧
        ∀ base : Heap, (K w.params).In base → base.Ns mainGlobals mg → FnOk r.prog w (K w.params) mg base CX k fa fd ps (sp (K w.params)))
    (hsp : ∀ (K : PySem.W.Frag) (H : Hp) (xs : List V) (a : Codec.denoteAll r.args), OnlyF H → Codec.withinAll r.args a = true → Codec.app r.args r.asked a = true → DwAll K H xs (Codec.encAll r.args a) →
      sp K xs H (fun v H' => Dw K H' v (r.ret.enc (Codec.app r.args r.f a))) fun _ _ _ => False)
    (hCX : ∀ (H : Hp) (s : Shared) (e : Value) (s' : Shared), CX [] H s (fun _ _ _ => False) e s' → False) :
    PySem.W.WalkOS q loose XP YP r d [] (fun f vs => PySem.call f vs) :=
  walk_spec (K := K) (CX := fun _ => CX) (sp := fun w => sp (K w.params)) hwell hdf hlen hr hY F (fun w H xs a h1 h2 h3 h4 => hsp (K w.params) H xs a h1 h2 h3 h4) fun _ H s e s' => hCX H s e s'
end L2
end
end
section
set_option Elab.async false
set_option maxRecDepth 100000
set_option linter.all false
namespace Hs
open PySem PySem.Spec
open PyProof.Rows hiding St
open L2
def top (i : Nat) : Stmt := PySem.Challenge.pw_levelloads_s01_answers.main.body.getD i (.Pass ⟨0, 0, 0, 0⟩)
section
open PySem PySem.W L2
abbrev u (x : String) : Str := Str.ofString x
def kR (l : List Addr) : Obj := ⟨.type "tuple", none, .seq (l.map .ref).toArray 0, #[]⟩
def kIs : Nat → List Int → List Value
  | _, [] => []
  | t, i :: l => .int i t :: kIs (t + 1) l
def kI (t : Nat) (l : List Int) : Obj := ⟨.type "tuple", none, .seq (kIs t l).toArray 0, #[]⟩
def kD (l : List DictEntry) (n : Nat) : Obj := ⟨.type "dict", none, .dict l.toArray n, #[]⟩
def ke (P : Params) (x : String) (t : Nat) (v : Value) : DictEntry := ⟨PyData.keyHash P (u x), .str (u x) t, v⟩
def kr (P : Params) (x : String) (t : Nat) (a : Addr) : DictEntry := ke P x t (.ref a)
def kG (n q : String) (t l k r : Nat) (x y z : Value) (v : Nat) : Obj := ⟨.type "code", none, .fields #[.str (u n) t, .str (u q) (t + 1), .str (u "/claim/cut.py") (t + 2), .int (Int.ofNat l) 0, .int (Int.ofNat k) 0, .int 0 0, .int 0 0, .int 3 0, .ref r, .bool true, .int 181 0, .ref (r + 1), .none, x, y, z, .int (Int.ofNat v) 0, .int (Int.ofNat l) 0, .str (u "/claim/cut.py") (v + 1)], #[]⟩
def kB (n q : String) (t l k r : Nat) : Obj := kG n q t l k r .none .none (.ref (r + 2)) (t + 3)
def kC (n q : String) (t l k r v : Nat) : Obj := kG n q t l k r (.ref (r + 2)) (.ref (r + 3)) (.ref (r + 4)) v
def m0 : Value := .str (u "levelloads.forms") 187
def m1 : Value := .str (u "levelloads.kept") 318
def m2 : Value := .str (u "levelloads.plan") 421
def m3 : Value := .str (u "levelloads.questions") 544
def m4 : Value := .str (u "levelloads.house") 656
def kF (n q : String) (s : Stmt) (m : Value) (c : Addr) : Obj := ⟨.type "function", none, .func (fnOf (u n) (u q) (defArgs s) (defBody s) (defScope s) .none .none .none m none (.ref c) .none), #[]⟩
def kK (n : String) (t ns a : Nat) : Obj := ⟨.type "type", none, .cls { name := u n, bases := [.type "object"], mro := [.ref a, .type "object"], ns := ns, qualname := u n }, #[none, none, some (.str (u n) t), some (.str (u n) (t + 8)), some (.builtin "object.__new__"), some (.bool true)]⟩
noncomputable def KK (P : Params) : Frag :=
(nat_lit 3, (let r := kr P; let e := ke P; kD [e "__name__" 165 (.str (u "levelloads.house") 656), e "__doc__" 166 (.none), e "__package__" 167 (.none), e "__loader__" 168 (.builtin "__main__.__loader__#opaque"), e "__spec__" 169 (.none), r "__annotations__" 170 6, r "__builtins__" 171 4, e "__file__" 173 (.str (u "/claim/cut.py") 172), e "__cached__" 174 (.none), r "NUMBERS" 219 51, r "ROWS" 240 52, r "Call" 275 73, r "read_call" 288 84, r "numbers_within" 298 91, r "row_within" 309 98, r "call_within" 317 105, r "House" 420 174, r "set_sums" 428 183, r "forced_by" 434 188, r "forced_sums" 440 193, r "least_sums" 446 198, r "rounded_up" 454 205, r "holds" 462 212, r "next_level" 474 219, r "next_done" 488 226, r "can_hold" 499 233, r "put_level" 505 238, r "plan_totals" 518 245, r "plan_amounts" 524 250, r "free_sums" 530 255, r "plan_shares" 536 260, r "plan_peak" 543 267, e "GREATEST_AMOUNT" 547 (.int 1000000000 546), r "top_sum" 556 274, r "squares_of" 562 279, r "square_sum" 569 286, r "are_growing" 579 293, r "forced_and_mean" 585 298, r "peak_periods" 591 303, r "is_schedule" 604 310, r "schedule_check" 610 315, r "slack_between" 616 320, r "fits_limit" 624 327, r "greatest_need" 640 334, r "load_info" 648 341, r "house_state" 655 348, r "change" 667 355, r "show" 675 362, r "ask" 685 369, r "answer" 693 376, r "answers" 705 383] 51)) ::
(nat_lit 15, kI 189 [1, 8]) ::
(nat_lit 16, kR [15]) ::
(nat_lit 17, kI 191 [0, 1000000000]) ::
(nat_lit 18, kR [17]) ::
(nat_lit 19, kI 193 [1, 8]) ::
(nat_lit 20, kI 195 [0, 1000000000]) ::
(nat_lit 21, kR [19, 20]) ::
(nat_lit 22, kI 197 [1, 8]) ::
(nat_lit 23, kI 199 [1, 8]) ::
(nat_lit 24, kI 201 [0, 1000000000]) ::
(nat_lit 25, kR [22, 23, 24]) ::
(nat_lit 26, kI 203 [1, 8]) ::
(nat_lit 27, kI 205 [0, 1000000000]) ::
(nat_lit 28, kR [26, 27]) ::
(nat_lit 29, kR []) ::
(nat_lit 30, kR []) ::
(nat_lit 31, kR []) ::
(nat_lit 32, kR []) ::
(nat_lit 33, kR []) ::
(nat_lit 34, kR []) ::
(nat_lit 35, kI 207 [1, 8]) ::
(nat_lit 36, kR [35]) ::
(nat_lit 37, kR []) ::
(nat_lit 38, kR []) ::
(nat_lit 39, kR []) ::
(nat_lit 40, kR []) ::
(nat_lit 41, kI 209 [1, 8]) ::
(nat_lit 42, kI 211 [1, 8]) ::
(nat_lit 43, kR [41, 42]) ::
(nat_lit 44, kI 213 [0, 10000000000]) ::
(nat_lit 45, kR [44]) ::
(nat_lit 46, kI 215 [1, 8]) ::
(nat_lit 47, kR [46]) ::
(nat_lit 48, kI 217 [1, 8]) ::
(nat_lit 49, kR [48]) ::
(nat_lit 50, kR []) ::
(nat_lit 51, kR [16, 18, 21, 25, 28, 29, 30, 31, 32, 33, 34, 36, 37, 38, 39, 40, 43, 45, 47, 49, 50]) ::
(nat_lit 52, kD [⟨1, .int 1 220, .ref 53⟩, ⟨6, .int 6 224, .ref 54⟩, ⟨13, .int 13 228, .ref 55⟩, ⟨15, .int 15 232, .ref 56⟩] 4) ::
(nat_lit 53, kI 221 [8, 0, 1000000000]) ::
(nat_lit 54, kI 225 [8, 0, 1000000000]) ::
(nat_lit 55, kI 229 [8, 1, 8]) ::
(nat_lit 56, kI 233 [64, 0, 1000000000]) ::
(nat_lit 69, kC "__init__" "Call.__init__" 253 6 5 64 261) ::
(nat_lit 70, kF "__init__" "Call.__init__" (inClass (top 3) 0) m0 69) ::
(nat_lit 72, (let r := kr P; let e := ke P; kD [e "__module__" 248 (.str (u "levelloads.forms") 187), e "__firstlineno__" 252 (.int 4 251), r "__init__" 263 70, r "__static_attributes__" 268 71, r "__dict__" 270 74, r "__weakref__" 272 75, e "__doc__" 273 (.none)] 4)) ::
(nat_lit 73, kK "Call" 241 72 73) ::
(nat_lit 83, kC "read_call" "read_call" 276 11 2 78 286) ::
(nat_lit 84, kF "read_call" "read_call" (top 4) m0 83) ::
(nat_lit 90, kC "numbers_within" "numbers_within" 289 20 2 85 296) ::
(nat_lit 91, kF "numbers_within" "numbers_within" (top 5) m0 90) ::
(nat_lit 97, kC "row_within" "row_within" 299 25 4 92 307) ::
(nat_lit 98, kF "row_within" "row_within" (top 6) m0 97) ::
(nat_lit 104, kC "call_within" "call_within" 310 32 1 99 315) ::
(nat_lit 105, kF "call_within" "call_within" (top 7) m0 104) ::
(nat_lit 118, kC "__init__" "House.__init__" 332 42 1 113 336) ::
(nat_lit 119, kF "__init__" "House.__init__" (inClass (top 9) 0) m1 118) ::
(nat_lit 125, kC "begin" "House.begin" 339 49 2 120 344) ::
(nat_lit 126, kF "begin" "House.begin" (inClass (top 9) 1) m1 125) ::
(nat_lit 132, kC "add_load" "House.add_load" 347 56 3 127 353) ::
(nat_lit 133, kF "add_load" "House.add_load" (inClass (top 9) 2) m1 132) ::
(nat_lit 139, kC "change_need" "House.change_need" 356 65 3 134 362) ::
(nat_lit 140, kF "change_need" "House.change_need" (inClass (top 9) 3) m1 139) ::
(nat_lit 146, kC "change_room" "House.change_room" 365 73 4 141 373) ::
(nat_lit 147, kF "change_room" "House.change_room" (inClass (top 9) 4) m1 146) ::
(nat_lit 153, kC "change_base" "House.change_base" 376 85 3 148 382) ::
(nat_lit 154, kF "change_base" "House.change_base" (inClass (top 9) 5) m1 153) ::
(nat_lit 158, kB "add_period" "House.add_period" 385 91 1 155) ::
(nat_lit 159, kF "add_period" "House.add_period" (inClass (top 9) 6) m1 158) ::
(nat_lit 163, kB "pass_on" "House.pass_on" 391 98 2 160) ::
(nat_lit 164, kF "pass_on" "House.pass_on" (inClass (top 9) 7) m1 163) ::
(nat_lit 170, kC "can_get" "House.can_get" 397 110 2 165 405) ::
(nat_lit 171, kF "can_get" "House.can_get" (inClass (top 9) 8) m1 170) ::
(nat_lit 173, (let r := kr P; let e := ke P; kD [e "__module__" 327 (.str (u "levelloads.kept") 318), e "__firstlineno__" 331 (.int 40 330), r "__init__" 338 119, r "begin" 346 126, r "add_load" 355 133, r "change_need" 364 140, r "change_room" 375 147, r "change_base" 384 154, r "add_period" 390 159, r "pass_on" 396 164, r "can_get" 407 171, r "__static_attributes__" 413 172, r "__dict__" 415 175, r "__weakref__" 417 176, e "__doc__" 418 (.none)] 4)) ::
(nat_lit 174, kK "House" 320 173 174) ::
(nat_lit 182, kB "set_sums" "set_sums" 423 118 1 179) ::
(nat_lit 183, kF "set_sums" "set_sums" (top 11) m2 182) ::
(nat_lit 187, kB "forced_by" "forced_by" 429 123 2 184) ::
(nat_lit 188, kF "forced_by" "forced_by" (top 12) m2 187) ::
(nat_lit 192, kB "forced_sums" "forced_sums" 435 127 1 189) ::
(nat_lit 193, kF "forced_sums" "forced_sums" (top 13) m2 192) ::
(nat_lit 197, kB "least_sums" "least_sums" 441 132 1 194) ::
(nat_lit 198, kF "least_sums" "least_sums" (top 14) m2 197) ::
(nat_lit 204, kC "rounded_up" "rounded_up" 447 134 2 199 452) ::
(nat_lit 205, kF "rounded_up" "rounded_up" (top 15) m2 204) ::
(nat_lit 211, kC "holds" "holds" 455 136 2 206 460) ::
(nat_lit 212, kF "holds" "holds" (top 16) m2 211) ::
(nat_lit 218, kC "next_level" "next_level" 463 138 3 213 472) ::
(nat_lit 219, kF "next_level" "next_level" (top 17) m2 218) ::
(nat_lit 225, kC "next_done" "next_done" 475 145 4 220 486) ::
(nat_lit 226, kF "next_done" "next_done" (top 18) m2 225) ::
(nat_lit 232, kC "can_hold" "can_hold" 489 155 3 227 497) ::
(nat_lit 233, kF "can_hold" "can_hold" (top 19) m2 232) ::
(nat_lit 237, kB "put_level" "put_level" 500 160 5 234) ::
(nat_lit 238, kF "put_level" "put_level" (top 20) m2 237) ::
(nat_lit 244, kC "plan_totals" "plan_totals" 506 170 1 239 516) ::
(nat_lit 245, kF "plan_totals" "plan_totals" (top 21) m2 244) ::
(nat_lit 249, kB "plan_amounts" "plan_amounts" 519 181 1 246) ::
(nat_lit 250, kF "plan_amounts" "plan_amounts" (top 22) m2 249) ::
(nat_lit 254, kB "free_sums" "free_sums" 525 183 1 251) ::
(nat_lit 255, kF "free_sums" "free_sums" (top 23) m2 254) ::
(nat_lit 259, kB "plan_shares" "plan_shares" 531 185 1 256) ::
(nat_lit 260, kF "plan_shares" "plan_shares" (top 24) m2 259) ::
(nat_lit 266, kC "plan_peak" "plan_peak" 537 195 1 261 541) ::
(nat_lit 267, kF "plan_peak" "plan_peak" (top 25) m2 266) ::
(nat_lit 273, kC "top_sum" "top_sum" 548 199 2 268 554) ::
(nat_lit 274, kF "top_sum" "top_sum" (top 28) m3 273) ::
(nat_lit 278, kB "squares_of" "squares_of" 557 202 1 275) ::
(nat_lit 279, kF "squares_of" "squares_of" (top 29) m3 278) ::
(nat_lit 285, kC "square_sum" "square_sum" 563 204 1 280 567) ::
(nat_lit 286, kF "square_sum" "square_sum" (top 30) m3 285) ::
(nat_lit 292, kC "are_growing" "are_growing" 570 206 2 287 577) ::
(nat_lit 293, kF "are_growing" "are_growing" (top 31) m3 292) ::
(nat_lit 297, kB "forced_and_mean" "forced_and_mean" 580 213 2 294) ::
(nat_lit 298, kF "forced_and_mean" "forced_and_mean" (top 32) m3 297) ::
(nat_lit 302, kB "peak_periods" "peak_periods" 586 218 1 299) ::
(nat_lit 303, kF "peak_periods" "peak_periods" (top 33) m3 302) ::
(nat_lit 309, kC "is_schedule" "is_schedule" 592 226 2 304 602) ::
(nat_lit 310, kF "is_schedule" "is_schedule" (top 34) m3 309) ::
(nat_lit 314, kB "schedule_check" "schedule_check" 605 234 2 311) ::
(nat_lit 315, kF "schedule_check" "schedule_check" (top 35) m3 314) ::
(nat_lit 319, kB "slack_between" "slack_between" 611 245 3 316) ::
(nat_lit 320, kF "slack_between" "slack_between" (top 36) m3 319) ::
(nat_lit 326, kC "fits_limit" "fits_limit" 617 252 2 321 622) ::
(nat_lit 327, kF "fits_limit" "fits_limit" (top 37) m3 326) ::
(nat_lit 333, kC "greatest_need" "greatest_need" 625 254 2 328 638) ::
(nat_lit 334, kF "greatest_need" "greatest_need" (top 38) m3 333) ::
(nat_lit 340, kC "load_info" "load_info" 641 266 2 335 646) ::
(nat_lit 341, kF "load_info" "load_info" (top 39) m3 340) ::
(nat_lit 347, kC "house_state" "house_state" 649 270 1 342 653) ::
(nat_lit 348, kF "house_state" "house_state" (top 40) m3 347) ::
(nat_lit 354, kC "change" "change" 658 273 4 349 665) ::
(nat_lit 355, kF "change" "change" (top 42) m4 354) ::
(nat_lit 361, kC "show" "show" 668 287 2 356 673) ::
(nat_lit 362, kF "show" "show" (top 43) m4 361) ::
(nat_lit 368, kC "ask" "ask" 676 295 4 363 683) ::
(nat_lit 369, kF "ask" "ask" (top 44) m4 368) ::
(nat_lit 375, kC "answer" "answer" 686 315 2 370 691) ::
(nat_lit 376, kF "answer" "answer" (top 45) m4 375) ::
(nat_lit 382, kC "answers" "answers" 694 325 1 377 703) ::
(nat_lit 383, kF "answers" "answers" (top 46) m4 382) :: []
end
noncomputable def KKs : List Addr := [nat_lit 3, nat_lit 15, nat_lit 16, nat_lit 17, nat_lit 18, nat_lit 19, nat_lit 20, nat_lit 21, nat_lit 22, nat_lit 23, nat_lit 24, nat_lit 25, nat_lit 26, nat_lit 27, nat_lit 28, nat_lit 29, nat_lit 30, nat_lit 31, nat_lit 32, nat_lit 33, nat_lit 34, nat_lit 35, nat_lit 36, nat_lit 37, nat_lit 38, nat_lit 39, nat_lit 40, nat_lit 41, nat_lit 42, nat_lit 43, nat_lit 44, nat_lit 45, nat_lit 46, nat_lit 47, nat_lit 48, nat_lit 49, nat_lit 50, nat_lit 51, nat_lit 52, nat_lit 53, nat_lit 54, nat_lit 55, nat_lit 56, nat_lit 69, nat_lit 70, nat_lit 72, nat_lit 73, nat_lit 83, nat_lit 84, nat_lit 90, nat_lit 91, nat_lit 97, nat_lit 98, nat_lit 104, nat_lit 105, nat_lit 118, nat_lit 119, nat_lit 125, nat_lit 126, nat_lit 132, nat_lit 133, nat_lit 139, nat_lit 140, nat_lit 146, nat_lit 147, nat_lit 153, nat_lit 154, nat_lit 158, nat_lit 159, nat_lit 163, nat_lit 164, nat_lit 170, nat_lit 171, nat_lit 173, nat_lit 174, nat_lit 182, nat_lit 183, nat_lit 187, nat_lit 188, nat_lit 192, nat_lit 193, nat_lit 197, nat_lit 198, nat_lit 204, nat_lit 205, nat_lit 211, nat_lit 212, nat_lit 218, nat_lit 219, nat_lit 225, nat_lit 226, nat_lit 232, nat_lit 233, nat_lit 237, nat_lit 238, nat_lit 244, nat_lit 245, nat_lit 249, nat_lit 250, nat_lit 254, nat_lit 255, nat_lit 259, nat_lit 260, nat_lit 266, nat_lit 267, nat_lit 273, nat_lit 274, nat_lit 278, nat_lit 279, nat_lit 285, nat_lit 286, nat_lit 292, nat_lit 293, nat_lit 297, nat_lit 298, nat_lit 302, nat_lit 303, nat_lit 309, nat_lit 310, nat_lit 314, nat_lit 315, nat_lit 319, nat_lit 320, nat_lit 326, nat_lit 327, nat_lit 333, nat_lit 334, nat_lit 340, nat_lit 341, nat_lit 347, nat_lit 348, nat_lit 354, nat_lit 355, nat_lit 361, nat_lit 362, nat_lit 368, nat_lit 369, nat_lit 375, nat_lit 376, nat_lit 382, nat_lit 383]
theorem KKs_ok (P : PySem.Params) : KKs = (KK P).map (·.1) := by kernel_rfl
noncomputable def vw : Program := { PySem.Challenge.pw_levelloads_s01_answers with main := { PySem.Challenge.pw_levelloads_s01_answers.main with body := [1, 2, 3, 4, 5, 6, 7, 9, 11, 12, 13, 14, 15, 16, 17, 18, 19, 20, 21, 22, 23, 24, 25, 27, 28, 29, 30, 31, 32, 33, 34, 35, 36, 37, 38, 39, 40, 42, 43, 44, 45, 46].map top } }
end Hs
namespace Hs
open PySem PySem.W PySem.Calls PyProof.Rows
abbrev pg : Program := PySem.Challenge.pw_levelloads_s01_answers
noncomputable abbrev s0 (w : World) (os : OsState) : Shared := ⟨boot_heap w.params, Array.mk [], boot_drawn, boot_toks, os⟩
theorem both {a : Type} {α β : Type} {x : Option a} {f : a → α} {g : a → β} {u : α} {v : β} (h1 : x.map f = some u) (h2 : x.map g = some v) : x.map (fun s => (f s, g s)) = some (u, v) := by
  cases x with
  | none => cases h1
  | some s => cases h1; cases h2; rfl
theorem op (w : World) : ∃ os, fencedOpening treeTable pg w 4248 = some (s0 w os) := by
  obtain ⟨⟨h, gs, d, k, os⟩, e, e'⟩ := Option.map_eq_some_iff.mp (boot_open (p := pg) (N := 4248) (by kernel_rfl) rfl (fun s => rfl) w)
  cases e'
  exact ⟨os, e⟩
theorem left_of {q : Program} {loose : List Str} {Xt : Shared → Bool} {α : Type} {Yf : Shared → α} {Ya : World → α} {g0 : Bool}
    (hA : ∀ w os, (topFrom treeTable pg w 4248 (s0 w os)).map (openSeen q loose (importedModules pg.main.body) Xt g0) = some (openGood q loose))
    (hB : ∀ w os, (topFrom treeTable pg w 4248 (s0 w os)).map Yf = some (Ya w)) : LeftO pg q loose Xt Yf Ya 4248 g0 := fun w => by
  obtain ⟨os, e⟩ := op w
  unfold openEnds
  rw [e]
  exact both (hA w os) (hB w os)
end Hs
namespace Hs
open PySem PySem.W PySem.Calls PyProof.Rows
def runT (tb : String → Option Builtin) (p : Program) (w : World) (m : Nat) (ann : Option Value) : Nat → SharedT → Thread → Option SharedT
  | 0, _, _ => none
  | n + 1, s, t => match through t with
    | true => some s
    | false => match stepOk m ann t with
      | false => none
      | true => match stepT (denote tb) p w s t with
        | some (s', t') => runT tb p w m ann n s' t'
        | none => none
theorem run_of {tb : String → Option Builtin} {p : Program} {w : World} {m : Nat} {ann : Option Value} : ∀ {n : Nat} {s s' : SharedT} {t : Thread}, runT tb p w m ann n s t = some s' → topRun tb p w m ann n s.abs t = some s'.abs
  | 0, _, _, _, h => by cases h
  | n + 1, s, s', t, h => by
    unfold runT at h
    unfold topRun
    cases he : through t with
    | true => rw [he] at h; cases h; rfl
    | false =>
      rw [he] at h
      cases hk : stepOk m ann t with
      | false => rw [hk] at h; cases h
      | true =>
        rw [hk] at h
        cases hs : stepT (denote tb) p w s t with
        | none => rw [hs] at h; cases h
        | some r => obtain ⟨x, y⟩ := r; rw [hs] at h; rw [stepT_spec hs]; exact run_of h
def chk (p : Program) (a b : Shared) : Bool := staticsOk (importedModules p.main.body) a.heap b.heap && namesBound p b.heap && gensDone b && laidKept a.heap b.heap
def fromT {α : Type} (p : Program) (w : World) (N m : Nat) (ann : Option Value) (s : SharedT) (f : Shared → α) : Option α :=
  (runT treeTable p w m ann N s (topStub p)).bind fun x => match chk p s.abs x.abs with | true => some (f x.abs) | false => none
theorem from_of {α : Type} {p : Program} {w : World} {N m : Nat} {ann : Option Value} {s : SharedT} {f : Shared → α} {v : α} {s0 : Shared} (h : fromT p w N m ann s f = some v)
    (hz : (s0.heap.isNs mainGlobals && s0.gens.size == 0, s0.heap.objs.size, s0.heap.nsMap mainGlobals "__annotations__") = (true, m, ann)) (e : s.abs = s0) : (topFrom treeTable p w N s0).map f = some v := by
  subst e
  obtain ⟨z1, z2, z3⟩ : _ ∧ _ ∧ _ := by simpa only [Prod.mk.injEq] using hz
  obtain ⟨x, hx, hv⟩ := Option.bind_eq_some_iff.mp h
  unfold topFrom
  rw [z1, z2, z3, run_of hx]
  change Option.map f (match chk p s.abs x.abs with | true => some x.abs | false => none) = some v
  cases hc : chk p s.abs x.abs with
  | false => rw [hc] at hv; cases hv
  | true => rw [hc] at hv; exact hv
def tr : List Obj → Nat → BT → BT
  | [], _, t => t
  | o :: l, i, t => tr l (i + 1) (t.ins i o)
noncomputable abbrev sT (w : World) (os : OsState) : SharedT := ⟨tr (boot_heap w.params).objs.toList 0 .nil, (boot_heap w.params).objs.size, (boot_heap w.params).life, Array.mk [], boot_drawn, boot_toks, os⟩
theorem sT_abs (w : World) (os : OsState) : (sT w os).abs = s0 w os := by kernel_rfl
theorem ran_of {α : Type} {w : World} {os : OsState} {f : Shared → α} {v : α} (h : fromT pg w 4248 (boot_heap w.params).objs.size ((boot_heap w.params).nsMap mainGlobals "__annotations__") (sT w os) f = some v) : (topFrom treeTable pg w 4248 (s0 w os)).map f = some v :=
  from_of h (by kernel_rfl) (sT_abs w os)
end Hs
namespace Hs
open PySem PySem.W PySem.Calls PyProof.Rows
noncomputable abbrev sq : Shared → Bool := fun s => xlAt vw [] s && recOk [] s
noncomputable abbrev rn (w : World) (os : OsState) : Option Shared := topFrom treeTable pg w 4248 (s0 w os)
noncomputable abbrev oS (s : Shared) := openSeen vw ["ROWS"] (importedModules pg.main.body) sq true s
abbrev wf (w : World) (b : Bool) : World := w.withFollow "special-get-raises" b
theorem a0 (w : World) : ∀ os, (rn (wf w false) os).map oS = some (openGood vw ["ROWS"]) := fun os => ran_of (by kernel_rfl)
theorem a1 (w : World) : ∀ os, (rn (wf w true) os).map oS = some (openGood vw ["ROWS"]) := fun os => ran_of (by kernel_rfl)
theorem b0 (w : World) : ∀ os, (rn (wf w false) os).map (fun s => KKs.map s.heap.get?) = some ((KK (wf w false).params).map fun p => some p.2) := fun os => ran_of (by kernel_rfl)
theorem b1 (w : World) : ∀ os, (rn (wf w true) os).map (fun s => KKs.map s.heap.get?) = some ((KK (wf w true).params).map fun p => some p.2) := fun os => ran_of (by kernel_rfl)
noncomputable abbrev hk : Hook := kHook KK KKs KKs_ok
theorem left : LeftO pg vw ["ROWS"] sq (Hook.obs hk) (Hook.val hk) 4248 := left_of (byRow2 _ a0 a1) (byRow2 _ b0 b1)
end Hs
end
section
set_option linter.all false
namespace Lev
open Vbemat
theorem has_eq (p t : Nat) : has p t = p.testBit t := by
  unfold has
  rw [Nat.testBit_eq_decide_div_mod_eq]
  rfl
def S (v : Nat → Int) (p : Nat) : Nat → Int
  | 0 => 0
  | n + 1 => S v p n + (if p.testBit n = true then v n else 0)
theorem S_union_inter (v : Nat → Int) (p q : Nat) : ∀ n, S v (p ||| q) n + S v (p &&& q) n = S v p n + S v q n
  | 0 => rfl
  | n + 1 => by
    have ih := S_union_inter v p q n
    simp only [S, Nat.testBit_or, Nat.testBit_and]
    cases p.testBit n <;> cases q.testBit n <;> simp <;> omega
theorem S_le {v w : Nat → Int} {p : Nat} : ∀ {n : Nat}, (∀ t, t < n → p.testBit t = true → v t ≤ w t) → S v p n ≤ S w p n
  | 0, _ => Int.le_refl _
  | n + 1, h => by
    have ih := S_le (n := n) (fun t ht hb => h t (by omega) hb)
    simp only [S]
    cases e : p.testBit n with
    | false => simpa using ih
    | true =>
      have := h n (by omega) e
      simp
      omega
theorem S_lt {v w : Nat → Int} {p s : Nat} : ∀ {n : Nat}, (∀ t, t < n → p.testBit t = true → v t ≤ w t) → s < n → p.testBit s = true → v s < w s → S v p n < S w p n
  | 0, _, hs, _, _ => absurd hs (Nat.not_lt_zero _)
  | n + 1, h, hs, hb, hl => by
    have ih := S_le (n := n) (fun t ht hb => h t (by omega) hb)
    simp only [S]
    by_cases e : s = n
    · subst e
      rw [hb]
      simp
      omega
    · have ih := S_lt (n := n) (fun t ht hb => h t (by omega) hb) (by omega) hb hl
      cases e : p.testBit n with
      | false => simpa using ih
      | true =>
        have := h n (by omega) e
        simp
        omega
theorem S_congr {v w : Nat → Int} {p q : Nat} : ∀ {n : Nat}, (∀ t, t < n → p.testBit t = q.testBit t) → (∀ t, t < n → p.testBit t = true → v t = w t) → S v p n = S w q n
  | 0, _, _ => rfl
  | n + 1, hp, h => by
    have ih := S_congr (n := n) (fun t ht => hp t (by omega)) (fun t ht hb => h t (by omega) hb)
    simp only [S, ih, ← hp n (by omega)]
    cases e : p.testBit n with
    | false => simp
    | true =>
      have := h n (by omega) e
      simp [this]
theorem S_zero_set (v : Nat → Int) : ∀ n, S v 0 n = 0
  | 0 => rfl
  | n + 1 => by simp [S, S_zero_set v n]
def upd (v : Nat → Int) (s : Nat) (a : Int) : Nat → Int := fun t => if t = s then a else v t
theorem upd_self (v : Nat → Int) (s : Nat) (a : Int) : upd v s a s = a := by simp [upd]
theorem upd_ne {v : Nat → Int} {s t : Nat} {a : Int} (h : t ≠ s) : upd v s a t = v t := by simp [upd, h]
theorem S_upd (v : Nat → Int) (p s : Nat) (a : Int) : ∀ n, S (upd v s a) p n = S v p n + (if s < n ∧ p.testBit s = true then a - v s else 0)
  | 0 => by simp [S]
  | n + 1 => by
    have ih := S_upd v p s a n
    simp only [S, ih]
    by_cases e : s = n
    · subst e
      rw [upd_self]
      cases p.testBit s <;> simp
      omega
    · rw [upd_ne (fun q => e q.symm)]
      by_cases hs : s < n
      · have : s < n + 1 := by omega
        simp only [hs, this, true_and]
        omega
      · have : ¬ s < n + 1 := by omega
        simp [hs, this]
theorem S_add (v w : Nat → Int) (p : Nat) : ∀ n, S (fun t => v t + w t) p n = S v p n + S w p n
  | 0 => rfl
  | n + 1 => by
    have ih := S_add v w p n
    simp only [S, ih]
    cases p.testBit n <;> simp <;> omega
def card (p n : Nat) : Int := S (fun _ => 1) p n
theorem S_const (c : Int) (p : Nat) : ∀ n, S (fun _ => c) p n = c * card p n
  | 0 => by simp [S, card]
  | n + 1 => by
    have ih := S_const c p n
    simp only [card] at ih
    simp only [S, card, ih]
    cases p.testBit n <;> simp [Int.mul_add]
theorem card_union_inter (p q n : Nat) : card (p ||| q) n + card (p &&& q) n = card p n + card q n := S_union_inter _ p q n
def S2 (v : Nat → Int) (p k : Nat) : Nat → Int
  | 0 => 0
  | n + 1 => S2 v p k n + (if p.testBit (k + n) = true then v n else 0)
theorem S2_peel (v : Nat → Int) (p k : Nat) : ∀ n, S2 v p k (n + 1) = (if p.testBit k = true then v 0 else 0) + S2 (fun i => v (i + 1)) p (k + 1) n
  | 0 => by simp [S2]
  | n + 1 => by
    have ih := S2_peel v p k n
    rw [S2, ih]
    simp only [S2]
    have : k + (n + 1) = k + 1 + n := by omega
    rw [this]
    omega
theorem S2_zero (v : Nat → Int) (p : Nat) : ∀ n, S2 v p 0 n = S v p n
  | 0 => rfl
  | n + 1 => by simp [S2, S, S2_zero v p n]
theorem sumIn_eq (p : Nat) : ∀ (l : List Int) (k : Nat), sumIn p k l = S2 (nth l) p k l.length
  | [], _ => rfl
  | a :: r, k => by
    have ih := sumIn_eq p r (k + 1)
    rw [List.length_cons, S2_peel, sumIn, ih, has_eq]
    rfl
theorem over_eq (l : List Int) (p : Nat) : over l p = S (nth l) p l.length := by
  unfold over
  rw [sumIn_eq, S2_zero]
theorem full_bit {n t : Nat} : (2 ^ n - 1).testBit t = decide (t < n) := Nat.testBit_two_pow_sub_one n t
theorem sum_eq_S (l : List Int) : l.sum = S (nth l) (2 ^ l.length - 1) l.length := by
  have h : ∀ (l : List Int) (k n : Nat), k + l.length ≤ n → S2 (nth l) (2 ^ n - 1) k l.length = l.sum := by
    intro l
    induction l with
    | nil => intros; rfl
    | cons a r ih =>
      intro k n h
      rw [List.length_cons] at h
      rw [List.length_cons, S2_peel, List.sum_cons, full_bit]
      have := ih (k + 1) n (by omega)
      have e : (fun i => nth (a :: r) (i + 1)) = nth r := rfl
      rw [e, this]
      have : k < n := by omega
      simp [this, nth]
  rw [← S2_zero, h l 0 _ (by omega)]
theorem nth_setAt (x : Int) : ∀ (l : List Int) (i j : Nat), i < l.length → nth (setAt x i l) j = if j = i then x else nth l j
  | [], _, _, h => absurd h (Nat.not_lt_zero _)
  | y :: r, 0, 0, _ => by simp [setAt, nth]
  | y :: r, 0, j + 1, _ => by simp [setAt, nth]
  | y :: r, i + 1, 0, _ => by simp [setAt, nth]
  | y :: r, i + 1, j + 1, h => by
    have ih := nth_setAt x r i j (by simpa using h)
    simp only [setAt]
    have e : nth (y :: setAt x i r) (j + 1) = nth (setAt x i r) j := by simp [nth]
    have e' : nth (y :: r) (j + 1) = nth r j := by simp [nth]
    rw [e, e', ih]
    simp
theorem length_setAt (x : Int) : ∀ (l : List Int) (i : Nat), (setAt x i l).length = l.length
  | [], i => by cases i <;> simp [setAt]
  | _ :: _, 0 => rfl
  | _ :: r, i + 1 => by simp [setAt, length_setAt x r i]
theorem ext_nth {l m : List Int} (h : l.length = m.length) (e : ∀ t, t < l.length → nth l t = nth m t) : l = m := by
  apply List.ext_getElem h
  intro i h1 h2
  have := e i h1
  simpa [nth, h1, h2] using this
end Lev
end
section
set_option linter.all false
namespace Lev
structure Super (n : Nat) (g : Nat → Int) : Prop where
  zero : g 0 = 0
  sup : ∀ p q, p < 2 ^ n → q < 2 ^ n → g p + g q ≤ g (p ||| q) + g (p &&& q)
structure InB (n : Nat) (g : Nat → Int) (v : Nat → Int) : Prop where
  ge : ∀ p, p < 2 ^ n → g p ≤ S v p n
  all : S v (2 ^ n - 1) n = g (2 ^ n - 1)
def Tight (n : Nat) (g : Nat → Int) (v : Nat → Int) (p : Nat) : Prop := p < 2 ^ n ∧ S v p n = g p
theorem full_lt (n : Nat) : 2 ^ n - 1 < 2 ^ n := by
  have := Nat.two_pow_pos n
  omega
theorem Tight.both {n : Nat} {g v : Nat → Int} {p q : Nat} (G : Super n g) (B : ∀ p, p < 2 ^ n → g p ≤ S v p n) (hp : Tight n g v p) (hq : Tight n g v q) : Tight n g v (p ||| q) ∧ Tight n g v (p &&& q) := by
  have l1 : p ||| q < 2 ^ n := Nat.or_lt_two_pow hp.1 hq.1
  have l2 : p &&& q < 2 ^ n := Nat.and_lt_two_pow p hq.1
  have h1 := B _ l1
  have h2 := B _ l2
  have h3 := G.sup p q hp.1 hq.1
  have h4 := S_union_inter v p q n
  have h5 := hp.2
  have h6 := hq.2
  exact ⟨⟨l1, by omega⟩, ⟨l2, by omega⟩⟩
def Apart (n : Nat) (g : Nat → Int) (v : Nat → Int) (s t : Nat) : Prop := ∃ p, Tight n g v p ∧ p.testBit s = true ∧ p.testBit t = false
theorem meet {n : Nat} {g v : Nat → Int} {s : Nat} {R : Nat → Prop} (G : Super n g) (B : InB n g v) (hs : s < n) (h : ∀ t, t < n → R t → Apart n g v s t) :
    ∃ D, Tight n g v D ∧ D.testBit s = true ∧ ∀ t, t < n → R t → D.testBit t = false := by
  have step : ∀ k, k ≤ n → ∃ D, Tight n g v D ∧ D.testBit s = true ∧ ∀ t, t < k → R t → D.testBit t = false := by
    intro k
    induction k with
    | zero => intro _; exact ⟨2 ^ n - 1, ⟨full_lt n, B.all⟩, by rw [full_bit]; simpa using hs, fun t ht => absurd ht (Nat.not_lt_zero _)⟩
    | succ k ih =>
      intro hk
      obtain ⟨D, hD, hsD, hR⟩ := ih (by omega)
      by_cases r : R k
      · obtain ⟨p, hp, hps, hpk⟩ := h k (by omega) r
        refine ⟨D &&& p, (Tight.both G B.ge hD hp).2, by rw [Nat.testBit_and, hsD, hps]; rfl, fun t ht hr => ?_⟩
        rw [Nat.testBit_and]
        by_cases e : t = k
        · subst e; rw [hpk]; simp
        · rw [hR t (by omega) hr]; simp
      · refine ⟨D, hD, hsD, fun t ht hr => ?_⟩
        by_cases e : t = k
        · subst e; exact absurd hr r
        · exact hR t (by omega) hr
  exact step n (Nat.le_refl _)
theorem join {n : Nat} {g v : Nat → Int} {U R : Nat → Prop} (G : Super n g) (B : InB n g v)
    (h : ∀ s, s < n → U s → ∃ D, Tight n g v D ∧ D.testBit s = true ∧ ∀ t, t < n → R t → D.testBit t = false) :
    ∃ D, Tight n g v D ∧ (∀ s, s < n → U s → D.testBit s = true) ∧ ∀ t, t < n → R t → D.testBit t = false := by
  have step : ∀ k, k ≤ n → ∃ D, Tight n g v D ∧ (∀ s, s < k → U s → D.testBit s = true) ∧ ∀ t, t < n → R t → D.testBit t = false := by
    intro k
    induction k with
    | zero => intro _; exact ⟨0, ⟨Nat.two_pow_pos n, by rw [S_zero_set, G.zero]⟩, fun t ht => absurd ht (Nat.not_lt_zero _), fun t _ _ => Nat.zero_testBit t⟩
    | succ k ih =>
      intro hk
      obtain ⟨D, hD, hU, hR⟩ := ih (by omega)
      by_cases u : U k
      · obtain ⟨p, hp, hpk, hpR⟩ := h k (by omega) u
        refine ⟨D ||| p, (Tight.both G B.ge hD hp).1, fun t ht hu => ?_, fun t ht hr => by rw [Nat.testBit_or, hR t ht hr, hpR t ht hr]; rfl⟩
        rw [Nat.testBit_or]
        by_cases e : t = k
        · subst e; rw [hpk]; simp
        · rw [hU t (by omega) hu]; simp
      · refine ⟨D, hD, fun t ht hu => ?_, hR⟩
        by_cases e : t = k
        · subst e; exact absurd hu u
        · exact hU t (by omega) hu
  exact step n (Nat.le_refl _)
theorem exchange {n : Nat} {g v w : Nat → Int} {s : Nat} (G : Super n g) (B : InB n g v) (C : InB n g w) (hs : s < n) (hl : w s < v s) :
    ∃ t, t < n ∧ v t < w t ∧ ¬ Apart n g v s t := by
  apply Classical.byContradiction
  intro hn
  have h : ∀ t, t < n → v t < w t → Apart n g v s t := fun t ht hr => Classical.byContradiction fun q => hn ⟨t, ht, hr, q⟩
  obtain ⟨D, hD, hsD, hR⟩ := meet G B hs h
  have h1 : S w D n < S v D n := S_lt (fun t ht hb => by
    apply Classical.byContradiction
    intro q
    have := hR t ht (by omega)
    rw [this] at hb
    cases hb) hs hsD hl
  have h2 := C.ge D hD.1
  have h3 := hD.2
  omega
def Fixed (n : Nat) (g v : Nat → Int) : Prop := ∀ s t, s < n → t < n → (v t < v s - 1 ∨ (v t = v s - 1 ∧ s < t)) → Apart n g v s t
theorem argmax (P : Nat → Prop) (f : Nat → Int) : ∀ n, (∃ t, t < n ∧ P t) → ∃ t, t < n ∧ P t ∧ ∀ u, u < n → P u → f u ≤ f t
  | 0, h => by obtain ⟨t, ht, _⟩ := h; exact absurd ht (Nat.not_lt_zero _)
  | n + 1, h => by
    by_cases e : ∃ t, t < n ∧ P t
    · obtain ⟨t, ht, hp, hm⟩ := argmax P f n e
      by_cases q : P n ∧ f t < f n
      · refine ⟨n, by omega, q.1, fun u hu hpu => ?_⟩
        by_cases e : u = n
        · subst e; omega
        · have := hm u (by omega) hpu; omega
      · refine ⟨t, by omega, hp, fun u hu hpu => ?_⟩
        by_cases e : u = n
        · subst e
          apply Classical.byContradiction
          intro r
          exact q ⟨hpu, by omega⟩
        · exact hm u (by omega) hpu
    · obtain ⟨t, ht, hp⟩ := h
      have : t = n := by
        apply Classical.byContradiction
        intro q
        exact e ⟨t, by omega, hp⟩
      subst this
      refine ⟨t, by omega, hp, fun u hu hpu => ?_⟩
      by_cases q : u = t
      · subst q; omega
      · exact absurd ⟨u, by omega, hpu⟩ e
def key (n : Nat) (v : Nat → Int) (t : Nat) : Int := v t * (n + 1 : Nat) - t
theorem key_le {n : Nat} {v w : Nat → Int} {s t : Nat} (hs : s < n) (ht : t < n) (h : key n w t ≤ key n v s) : w t < v s ∨ (w t = v s ∧ s ≤ t) := by
  unfold key at h
  by_cases e : w t < v s
  · exact .inl e
  · right
    by_cases q : v s < w t
    · have : (v s + 1) * ((n + 1 : Nat) : Int) ≤ w t * ((n + 1 : Nat) : Int) := Int.mul_le_mul_of_nonneg_right (by omega) (by omega)
      rw [Int.add_mul] at this
      omega
    · have : w t = v s := by omega
      refine ⟨this, ?_⟩
      rw [this] at h
      omega
theorem unique_half {n : Nat} {g v w : Nat → Int} {s : Nat} (G : Super n g) (B : InB n g v) (C : InB n g w) (Q : Fixed n g v) (hs : s < n) (hl : w s < v s)
    (hm : ∀ t, t < n → v t < w t → key n w t ≤ key n v s) : False := by
  obtain ⟨t, ht, hvw, hA⟩ := exchange G B C hs hl
  have h1 := key_le hs ht (hm t ht hvw)
  have hst : s ≠ t := by intro e; subst e; omega
  apply hA
  apply Q s t hs ht
  rcases h1 with h1 | ⟨h1, h2⟩
  · left; omega
  · by_cases q : v t = v s - 1
    · right; exact ⟨q, by omega⟩
    · left; omega
theorem unique {n : Nat} {g v w : Nat → Int} (G : Super n g) (B : InB n g v) (C : InB n g w) (Q : Fixed n g v) (R : Fixed n g w) : ∀ t, t < n → v t = w t := by
  intro t ht
  apply Classical.byContradiction
  intro hne
  obtain ⟨s, hs, hP, hm⟩ := argmax (fun t => v t ≠ w t) (fun t => key n (fun t => max (v t) (w t)) t) n ⟨t, ht, hne⟩
  have hk : ∀ u, key n (fun t => max (v t) (w t)) u = max (v u) (w u) * (n + 1 : Nat) - u := fun u => rfl
  by_cases hl : w s < v s
  · refine unique_half G B C Q hs hl fun t ht hvw => ?_
    have := hm t ht (by omega)
    rw [hk, hk, show max (v t) (w t) = w t by omega, show max (v s) (w s) = v s by omega] at this
    exact this
  · refine unique_half G C B R hs (show v s < w s by omega) fun t ht hvw => ?_
    have := hm t ht (by omega)
    rw [hk, hk, show max (v t) (w t) = v t by omega, show max (v s) (w s) = w s by omega] at this
    exact this
def Level (n : Nat) (g v : Nat → Int) : Prop := ∀ s t, s < n → t < n → v t < v s - 1 → Apart n g v s t
theorem cut {n : Nat} {g v : Nat → Int} (G : Super n g) (B : InB n g v) (L : Level n g v) (c : Int) :
    ∃ D, Tight n g v D ∧ (∀ s, s < n → c < v s → D.testBit s = true) ∧ ∀ t, t < n → v t < c → D.testBit t = false :=
  join (U := fun s => c < v s) (R := fun t => v t < c) G B fun s hs hu => meet (R := fun t => v t < c) G B hs fun t ht hr => L s t hs ht (by omega)
def mv (v : Nat → Int) (s t : Nat) (a : Int) : Nat → Int := fun u => v u - (if u = s then a else 0) + (if u = t then a else 0)
theorem S_mv (v : Nat → Int) (p s t : Nat) (a : Int) : ∀ n, S (mv v s t a) p n = S v p n - (if s < n ∧ p.testBit s = true then a else 0) + (if t < n ∧ p.testBit t = true then a else 0)
  | 0 => by simp [S]
  | n + 1 => by
    have ih := S_mv v p s t a n
    simp only [S, ih, mv]
    have key : ∀ u : Nat, (if u < n + 1 ∧ p.testBit u = true then a else 0) = (if u < n ∧ p.testBit u = true then a else 0) + (if p.testBit n = true then (if n = u then a else 0) else 0) := by
      intro u
      by_cases e : n = u
      · subst e
        cases p.testBit n <;> simp
      · by_cases hu : u < n
        · have h2 : u < n + 1 := by omega
          simp [hu, h2, e]
        · have h2 : ¬ u < n + 1 := by omega
          simp [hu, h2, e]
    rw [key s, key t]
    cases p.testBit n <;> simp <;> omega
theorem mv_InB {n : Nat} {g v : Nat → Int} {s t : Nat} {a : Int} (B : InB n g v) (hs : s < n) (ht : t < n) (ha : 0 ≤ a)
    (h : ∀ p, p < 2 ^ n → p.testBit s = true → p.testBit t = false → a ≤ S v p n - g p) : InB n g (mv v s t a) where
  ge := fun p hp => by
    rw [S_mv]
    have := B.ge p hp
    by_cases h1 : p.testBit s = true
    · by_cases h2 : p.testBit t = true
      · simp [hs, ht, h1, h2]; omega
      · have h3 := h p hp h1 (by simpa using h2)
        simp [hs, ht, h1, h2]; omega
    · by_cases h2 : p.testBit t = true
      · simp [hs, ht, h1, h2]; omega
      · simp [hs, ht, h1, h2]; omega
  all := by
    rw [S_mv, full_bit, full_bit, B.all]
    simp [hs, ht]
theorem mv_Level {n : Nat} {g v : Nat → Int} {s t : Nat} (G : Super n g) (B : InB n g v) (L : Level n g v) (hs : s < n) (ht : t < n) (hd : v s = v t + 1) (B' : InB n g (mv v s t 1)) : Level n g (mv v s t 1) := by
  intro u w hu hw hlt
  have hst : s ≠ t := by intro e; subst e; omega
  obtain ⟨D, hD, hU, hR⟩ := cut G B L (mv v s t 1 u - 1)
  have hge := B'.ge D hD.1
  have hmv : S (mv v s t 1) D n = _ := S_mv v D s t 1 n
  have ev : ∀ i, mv v s t 1 i = v i - (if i = s then 1 else 0) + (if i = t then 1 else 0) := fun i => rfl
  have eq := hD.2
  have hboth : D.testBit s = D.testBit t := by
    cases hbs : D.testBit s with
    | true =>
      cases hbt : D.testBit t with
      | true => rfl
      | false =>
        rw [hmv] at hge
        simp [hs, ht, hbs, hbt] at hge
        omega
    | false =>
      cases hbt : D.testBit t with
      | false => rfl
      | true =>
        have h1 : ¬ (mv v s t 1 u - 1 < v s) := fun q => by have := hU s hs q; rw [hbs] at this; cases this
        have h2 : ¬ (v t < mv v s t 1 u - 1) := fun q => by have := hR t ht q; rw [hbt] at this; cases this
        omega
  have hT : Tight n g (mv v s t 1) D := by
    refine ⟨hD.1, ?_⟩
    rw [hmv, ← hboth]
    simp [hs, ht]
    omega
  refine ⟨D, hT, ?_, ?_⟩
  · by_cases e1 : u = t
    · have h1 := ev u
      rw [if_neg (show ¬ u = s by omega), if_pos e1] at h1
      subst e1
      rw [← hboth]
      exact hU s hs (by omega)
    · apply hU u hu
      have := ev u
      rw [if_neg e1] at this
      by_cases e2 : u = s
      · rw [if_pos e2] at this; omega
      · rw [if_neg e2] at this; omega
  · by_cases e1 : w = s
    · have h1 := ev w
      rw [if_pos e1, if_neg (show ¬ w = t by omega)] at h1
      rw [e1, hboth]
      exact hR t ht (by subst e1; omega)
    · apply hR w hw
      have := ev w
      rw [if_neg e1] at this
      by_cases e2 : w = t
      · rw [if_pos e2] at this; omega
      · rw [if_neg e2] at this; omega
end Lev
end
section
set_option linter.all false
namespace Lev
open Vbemat
structure Good (n : Nat) (base : List Int) (loads : List Load) : Prop where
  n8 : n ≤ 8
  bl : base.length = n
  b0 : ∀ b ∈ base, 0 ≤ b ∧ b ≤ 1000000000
  l8 : loads.length ≤ 8
  ld : ∀ x ∈ loads, x.rooms.length = n ∧ (∀ r ∈ x.rooms, 0 ≤ r ∧ r ≤ 1000000000) ∧ (0 ≤ x.need ∧ x.need ≤ 1000000000) ∧ x.need ≤ x.rooms.sum
theorem nth_mem {l : List Int} {t : Nat} (h : t < l.length) : nth l t ∈ l := by
  simp [nth, h]
theorem nth_nonneg {l : List Int} (h : ∀ r ∈ l, 0 ≤ r) (t : Nat) : 0 ≤ nth l t := by
  by_cases e : t < l.length
  · exact h _ (nth_mem e)
  · simp [nth, List.getElem?_eq_none (Nat.le_of_not_lt e)]
theorem S_nonneg {v : Nat → Int} {p n : Nat} (h : ∀ t, t < n → p.testBit t = true → 0 ≤ v t) : 0 ≤ S v p n := by
  have h1 : S (fun _ => 0) p n ≤ S v p n := S_le h
  rw [S_const, Int.zero_mul] at h1
  exact h1
theorem S_sub {v : Nat → Int} {p q : Nat} : ∀ {n : Nat}, (∀ t, t < n → 0 ≤ v t) → (∀ t, t < n → p.testBit t = true → q.testBit t = true) → S v p n ≤ S v q n
  | 0, _, _ => Int.le_refl _
  | n + 1, h, hs => by
    have ih := S_sub (n := n) (fun t ht => h t (by omega)) (fun t ht => hs t (by omega))
    have h1 := h n (by omega)
    have h2 := hs n (by omega)
    simp only [S]
    cases e : p.testBit n with
    | false => cases q.testBit n <;> simp <;> omega
    | true => rw [h2 e]; simp; omega
section
variable {n : Nat} {x : Load}
theorem forcedOf_eq (hl : x.rooms.length = n) (p : Nat) : forcedOf x p = max 0 (x.need - x.rooms.sum + S (nth x.rooms) p n) := by
  unfold forcedOf rest
  rw [over_eq, hl]
  omega
theorem forcedOf_super (hl : x.rooms.length = n) (h0 : ∀ r ∈ x.rooms, 0 ≤ r) (hn : x.need ≤ x.rooms.sum) : Super n (forcedOf x) where
  zero := by
    rw [forcedOf_eq hl, S_zero_set]
    omega
  sup := fun p q hp hq => by
    rw [forcedOf_eq hl, forcedOf_eq hl, forcedOf_eq hl, forcedOf_eq hl]
    have h1 := S_union_inter (nth x.rooms) p q n
    have h2 : S (nth x.rooms) (p &&& q) n ≤ S (nth x.rooms) p n := S_sub (fun t _ => nth_nonneg h0 t) (fun t _ h => by rw [Nat.testBit_and] at h; simp at h; exact h.1)
    have h3 : S (nth x.rooms) (p &&& q) n ≤ S (nth x.rooms) q n := S_sub (fun t _ => nth_nonneg h0 t) (fun t _ h => by rw [Nat.testBit_and] at h; simp at h; exact h.2)
    omega
theorem forcedOf_nonneg (p : Nat) : 0 ≤ forcedOf x p := by unfold forcedOf; omega
theorem forcedOf_mono (hl : x.rooms.length = n) (h0 : ∀ r ∈ x.rooms, 0 ≤ r) {p q : Nat} (h : ∀ t, t < n → p.testBit t = true → q.testBit t = true) : forcedOf x p ≤ forcedOf x q := by
  rw [forcedOf_eq hl, forcedOf_eq hl]
  have h2 : S (nth x.rooms) p n ≤ S (nth x.rooms) q n := S_sub (fun t _ => nth_nonneg h0 t) h
  omega
theorem forcedOf_full (hl : x.rooms.length = n) (hn : 0 ≤ x.need) : forcedOf x (2 ^ n - 1) = x.need := by
  rw [forcedOf_eq hl]
  have := sum_eq_S x.rooms
  rw [hl] at this
  omega
end
theorem forced_cons (x : Load) (l : List Load) (p : Nat) : forced (x :: l) p = forcedOf x p + forced l p := by
  simp [forced]
theorem forced_super {n : Nat} : ∀ {l : List Load}, (∀ x ∈ l, x.rooms.length = n ∧ (∀ r ∈ x.rooms, 0 ≤ r) ∧ x.need ≤ x.rooms.sum) → Super n (forced l)
  | [], _ => ⟨rfl, fun _ _ _ _ => by simp [forced]⟩
  | x :: l, h => by
    have ih := forced_super (l := l) fun y hy => h y (List.mem_cons_of_mem _ hy)
    have hx := h x List.mem_cons_self
    have h1 := forcedOf_super hx.1 hx.2.1 hx.2.2
    refine ⟨by rw [forced_cons, ih.zero, h1.zero]; rfl, fun p q hp hq => ?_⟩
    have a := ih.sup p q hp hq
    have b := h1.sup p q hp hq
    simp only [forced_cons]
    omega
theorem forced_nonneg (l : List Load) (p : Nat) : 0 ≤ forced l p := by
  induction l with
  | nil => simp [forced]
  | cons x l ih =>
    rw [forced_cons]
    have := forcedOf_nonneg (x := x) p
    omega
theorem forced_mono {n : Nat} : ∀ {l : List Load}, (∀ x ∈ l, x.rooms.length = n ∧ (∀ r ∈ x.rooms, 0 ≤ r)) → ∀ {p q : Nat}, (∀ t, t < n → p.testBit t = true → q.testBit t = true) → forced l p ≤ forced l q
  | [], _, _, _, _ => by simp [forced]
  | x :: l, h, p, q, hs => by
    have ih := forced_mono (l := l) (fun y hy => h y (List.mem_cons_of_mem _ hy)) hs
    have hx := h x List.mem_cons_self
    have h1 := forcedOf_mono hx.1 hx.2 hs
    simp only [forced_cons]
    omega
theorem forced_full {n : Nat} : ∀ {l : List Load}, (∀ x ∈ l, x.rooms.length = n ∧ 0 ≤ x.need) → forced l (2 ^ n - 1) = (l.map fun x => x.need).sum
  | [], _ => rfl
  | x :: l, h => by
    have ih := forced_full (l := l) (fun y hy => h y (List.mem_cons_of_mem _ hy))
    have hx := h x List.mem_cons_self
    have h1 := forcedOf_full hx.1 hx.2
    simp only [forced_cons, List.map_cons, List.sum_cons]
    omega
theorem length_table (n : Nat) (l : List Load) : (table n l).length = 2 ^ n := by simp [table, sets]
theorem nth_table {n p : Nat} (l : List Load) (h : p < 2 ^ n) : nth (table n l) p = forced l p := by
  simp [nth, table, sets, h]
def Tells (n : Nat) (f : List Int) (g : Nat → Int) : Prop := f.length = 2 ^ n ∧ ∀ p, p < 2 ^ n → nth f p = g p
theorem table_tells (n : Nat) (l : List Load) : Tells n (table n l) (forced l) := ⟨length_table n l, fun _ h => nth_table l h⟩
theorem length_first (n : Nat) (f : List Int) : (first n f).length = n := by simp [first]
theorem nth_first {n t : Nat} (f : List Int) (h : t < n) : nth (first n f) t = nth f (2 ^ (t + 1) - 1) - nth f (2 ^ t - 1) := by
  simp [nth, first, h]
theorem pow_mono {k n : Nat} (h : k ≤ n) : 2 ^ k ≤ 2 ^ n := Nat.pow_le_pow_right (by omega) h
theorem first_InB {n : Nat} {f : List Int} {g : Nat → Int} (G : Super n g) (T : Tells n f g) : InB n g (nth (first n f)) := by
  have hv : ∀ t, t < n → nth (first n f) t = g (2 ^ (t + 1) - 1) - g (2 ^ t - 1) := fun t ht => by
    have h1 := pow_mono (show t + 1 ≤ n by omega)
    have h2 := pow_mono (show t ≤ n by omega)
    have h3 := full_lt (t + 1)
    have h4 := full_lt t
    rw [nth_first f ht, T.2 _ (by omega), T.2 _ (by omega)]
  have low : ∀ k p, k ≤ n → p < 2 ^ n → g (p &&& (2 ^ k - 1)) ≤ S (nth (first n f)) p k := by
    intro k
    induction k with
    | zero => intro p _ _; simp [S, G.zero]
    | succ k ih =>
      intro p hk hp
      have ih := ih p (by omega) hp
      simp only [S]
      have hb : ∀ t, (p &&& (2 ^ (k + 1) - 1)).testBit t = (p.testBit t && decide (t < k + 1)) := fun t => by rw [Nat.testBit_and, full_bit]
      cases e : p.testBit k with
      | false =>
        have : p &&& (2 ^ (k + 1) - 1) = p &&& (2 ^ k - 1) := by
          apply Nat.eq_of_testBit_eq
          intro t
          rw [hb, Nat.testBit_and, full_bit]
          by_cases q : t = k
          · subst q; rw [e]; simp
          · by_cases r : t < k
            · have : t < k + 1 := by omega
              simp [r, this]
            · have : ¬ t < k + 1 := by omega
              simp [r, this]
        rw [this]
        simpa using ih
      | true =>
        have e1 : (p &&& (2 ^ (k + 1) - 1)) ||| (2 ^ k - 1) = 2 ^ (k + 1) - 1 := by
          apply Nat.eq_of_testBit_eq
          intro t
          rw [Nat.testBit_or, hb, full_bit, full_bit]
          by_cases q : t = k
          · subst q; rw [e]; simp
          · by_cases r : t < k
            · have : t < k + 1 := by omega
              simp [r, this]
            · have : ¬ t < k + 1 := by omega
              simp [r, this]
        have e2 : (p &&& (2 ^ (k + 1) - 1)) &&& (2 ^ k - 1) = p &&& (2 ^ k - 1) := by
          apply Nat.eq_of_testBit_eq
          intro t
          rw [Nat.testBit_and, hb, Nat.testBit_and, full_bit]
          by_cases r : t < k
          · have : t < k + 1 := by omega
            simp [r, this]
          · simp [r]
        have h1 := pow_mono hk
        have h2 := pow_mono (show k ≤ n by omega)
        have h3 := full_lt (k + 1)
        have h4 := full_lt k
        have l1 : p &&& (2 ^ (k + 1) - 1) < 2 ^ n := Nat.and_lt_two_pow p (by omega)
        have := G.sup (p &&& (2 ^ (k + 1) - 1)) (2 ^ k - 1) l1 (by omega)
        rw [e1, e2] at this
        rw [hv k (by omega), if_pos rfl]
        omega
  have tot : ∀ k, k ≤ n → S (nth (first n f)) (2 ^ n - 1) k = g (2 ^ k - 1) := by
    intro k
    induction k with
    | zero => intro _; simp [S, G.zero]
    | succ k ih =>
      intro hk
      have ih := ih (by omega)
      have hk' : k < n := by omega
      simp only [S, full_bit]
      rw [ih, hv k (by omega)]
      simp [hk']
      omega
  refine ⟨fun p hp => ?_, tot n (Nat.le_refl _)⟩
  have := low n p (Nat.le_refl _) hp
  rwa [Nat.and_two_pow_sub_one_eq_mod, Nat.mod_eq_of_lt hp] at this
def slackStep (x : List Int) (s t : Nat) (b : Option Int) (y : Nat × Int) : Option Int :=
  if has y.1 s = true ∧ has y.1 t = false then (let d := over x y.1 - y.2
    match b with
    | none => some d
    | some c => some (min c d)) else b
theorem slack_def (f x : List Int) (s t : Nat) : slack f x s t = (((List.range f.length).zip f).foldl (slackStep x s t) none).getD 0 := rfl
theorem slack_fold (x : List Int) (s t : Nat) : ∀ (L : List (Nat × Int)) (b : Option Int),
    (∀ c, b = some c → ∃ r, L.foldl (slackStep x s t) b = some r ∧ r ≤ c) ∧
    (∀ y ∈ L, has y.1 s = true → has y.1 t = false → ∃ r, L.foldl (slackStep x s t) b = some r ∧ r ≤ over x y.1 - y.2) ∧
    (∀ r, L.foldl (slackStep x s t) b = some r → b = some r ∨ ∃ y ∈ L, has y.1 s = true ∧ has y.1 t = false ∧ r = over x y.1 - y.2)
  | [], b => ⟨fun c h => ⟨c, h, Int.le_refl _⟩, fun y hy => absurd hy List.not_mem_nil, fun r h => .inl h⟩
  | z :: L, b => by
    obtain ⟨i1, i2, i3⟩ := slack_fold x s t L (slackStep x s t b z)
    rw [List.foldl_cons]
    by_cases hc : has z.1 s = true ∧ has z.1 t = false
    · cases b with
      | none =>
        have e : slackStep x s t none z = some (over x z.1 - z.2) := by simp [slackStep, hc]
        rw [e] at i1 i2 i3
        rw [e]
        refine ⟨fun c h => (by cases h), fun y hy h1 h2 => ?_, fun r hr => ?_⟩
        · rcases List.mem_cons.mp hy with rfl | hy
          · exact i1 _ rfl
          · exact i2 y hy h1 h2
        · rcases i3 r hr with h | ⟨y, hy, h⟩
          · exact .inr ⟨z, List.mem_cons_self, hc.1, hc.2, (Option.some.inj h).symm⟩
          · exact .inr ⟨y, List.mem_cons_of_mem _ hy, h⟩
      | some c0 =>
        have e : slackStep x s t (some c0) z = some (min c0 (over x z.1 - z.2)) := by simp [slackStep, hc]
        rw [e] at i1 i2 i3
        rw [e]
        obtain ⟨r0, hr0, hle⟩ := i1 _ rfl
        refine ⟨fun c h => ⟨r0, hr0, by cases h; omega⟩, fun y hy h1 h2 => ?_, fun r hr => ?_⟩
        · rcases List.mem_cons.mp hy with rfl | hy
          · exact ⟨r0, hr0, by omega⟩
          · exact i2 y hy h1 h2
        · rcases i3 r hr with h | ⟨y, hy, h⟩
          · have h := Option.some.inj h
            by_cases q : c0 ≤ over x z.1 - z.2
            · left; rw [← h, Int.min_eq_left q]
            · exact .inr ⟨z, List.mem_cons_self, hc.1, hc.2, by omega⟩
          · exact .inr ⟨y, List.mem_cons_of_mem _ hy, h⟩
    · have e : slackStep x s t b z = b := by simp only [slackStep, if_neg hc]
      rw [e] at i1 i2 i3
      rw [e]
      refine ⟨i1, fun y hy h1 h2 => ?_, fun r hr => ?_⟩
      · rcases List.mem_cons.mp hy with rfl | hy
        · exact absurd ⟨h1, h2⟩ hc
        · exact i2 y hy h1 h2
      · rcases i3 r hr with h | ⟨y, hy, h⟩
        · exact .inl h
        · exact .inr ⟨y, List.mem_cons_of_mem _ hy, h⟩
theorem mem_zip_range {f : List Int} {y : Nat × Int} : y ∈ (List.range f.length).zip f ↔ y.1 < f.length ∧ y.2 = nth f y.1 := by
  constructor
  · intro h
    obtain ⟨i, hi, e⟩ := List.getElem_of_mem h
    rw [List.length_zip, List.length_range] at hi
    have hi' : i < f.length := by omega
    rw [List.getElem_zip] at e
    subst e
    simp [nth, hi']
  · rintro ⟨h1, h2⟩
    apply List.mem_of_getElem (i := y.1) (h := by simpa using h1)
    rw [List.getElem_zip]
    apply Prod.ext
    · simp
    · rw [h2]; simp [nth, h1]
theorem two_pow_bit (s t : Nat) : (2 ^ s).testBit t = decide (s = t) := Nat.testBit_two_pow
theorem slack_le {n : Nat} {f x : List Int} {g : Nat → Int} {s t p : Nat} (T : Tells n f g) (hx : x.length = n) (hp : p < 2 ^ n) (h1 : p.testBit s = true) (h2 : p.testBit t = false) : slack f x s t ≤ S (nth x) p n - g p := by
  rw [slack_def]
  obtain ⟨r, hr, hle⟩ := (slack_fold x s t ((List.range f.length).zip f) none).2.1 (p, nth f p) (mem_zip_range.mpr ⟨by rw [T.1]; exact hp, rfl⟩) (by rw [has_eq]; exact h1) (by rw [has_eq]; exact h2)
  rw [hr]
  simp only [over_eq, hx, T.2 p hp] at hle
  exact hle
theorem slack_at {n : Nat} {f x : List Int} {g : Nat → Int} {s t : Nat} (T : Tells n f g) (hx : x.length = n) (hs : s < n) (hst : s ≠ t) :
    ∃ p, p < 2 ^ n ∧ p.testBit s = true ∧ p.testBit t = false ∧ slack f x s t = S (nth x) p n - g p := by
  have hp : 2 ^ s < 2 ^ n := Nat.pow_lt_pow_right (by omega) hs
  obtain ⟨r, hr, _⟩ := (slack_fold x s t ((List.range f.length).zip f) none).2.1 (2 ^ s, nth f (2 ^ s)) (mem_zip_range.mpr ⟨by rw [T.1]; exact hp, rfl⟩) (by rw [has_eq, two_pow_bit]; simp) (by rw [has_eq, two_pow_bit]; simpa using hst)
  rcases (slack_fold x s t ((List.range f.length).zip f) none).2.2 r hr with h | ⟨y, hy, h1, h2, h3⟩
  · cases h
  · obtain ⟨m1, m2⟩ := mem_zip_range.mp hy
    rw [T.1] at m1
    rw [has_eq] at h1 h2
    refine ⟨y.1, m1, h1, h2, ?_⟩
    rw [slack_def, hr, h3, m2, T.2 _ m1, over_eq, hx]
    rfl
end Lev
end
section
set_option linter.all false
namespace Lev
open Vbemat
theorem length_moved (s t : Nat) (a : Int) (x : List Int) : (moved s t a x).length = x.length := by
  simp [moved, length_setAt]
theorem nth_moved {s t : Nat} {a : Int} {x : List Int} (hs : s < x.length) (ht : t < x.length) (hst : s ≠ t) (u : Nat) : nth (moved s t a x) u = mv (nth x) s t a u := by
  unfold moved
  rw [nth_setAt _ _ _ _ (by rw [length_setAt]; exact ht), nth_setAt _ _ _ _ hs]
  unfold mv
  by_cases e1 : u = t
  · subst e1
    rw [if_pos rfl, if_neg (fun h => hst h.symm), if_pos rfl]
    omega
  · rw [if_neg e1, if_neg e1]
    by_cases e2 : u = s
    · subst e2
      rw [if_pos rfl, if_pos rfl]
      omega
    · rw [if_neg e2, if_neg e2]
      omega
def tot (base x : List Int) : Nat → Int := fun t => nth base t + nth x t
def gT (n : Nat) (base : List Int) (F : Nat → Int) : Nat → Int := fun p => F p + S (nth base) p n
theorem S_tot (base x : List Int) (p n : Nat) : S (tot base x) p n = S (nth base) p n + S (nth x) p n := S_add _ _ p n
theorem gT_super {n : Nat} {base : List Int} {F : Nat → Int} (G : Super n F) : Super n (gT n base F) where
  zero := by simp [gT, G.zero, S_zero_set]
  sup := fun p q hp hq => by
    have h1 := G.sup p q hp hq
    have h2 := S_union_inter (nth base) p q n
    simp only [gT]
    omega
theorem InB_tot {n : Nat} {base x : List Int} {F : Nat → Int} : InB n (gT n base F) (tot base x) ↔ InB n F (nth x) := by
  constructor
  · intro B
    refine ⟨fun p hp => ?_, ?_⟩
    · have := B.ge p hp
      rw [S_tot] at this
      simp only [gT] at this
      omega
    · have := B.all
      rw [S_tot] at this
      simp only [gT] at this
      omega
  · intro B
    refine ⟨fun p hp => ?_, ?_⟩
    · have := B.ge p hp
      rw [S_tot]
      simp only [gT]
      omega
    · have := B.all
      rw [S_tot]
      simp only [gT]
      omega
theorem tot_moved {base : List Int} {s t : Nat} {a : Int} {x : List Int} (hs : s < x.length) (ht : t < x.length) (hst : s ≠ t) : tot base (moved s t a x) = mv (tot base x) s t a := by
  funext u
  unfold tot
  rw [nth_moved hs ht hst]
  show nth base u + mv (nth x) s t a u = nth base u + nth x u - (if u = s then a else 0) + (if u = t then a else 0)
  unfold mv
  omega
theorem mem_pairs {n s t : Nat} : (s, t) ∈ pairs n ↔ s < n ∧ t < n ∧ s ≠ t := by
  unfold pairs
  rw [List.mem_flatMap]
  constructor
  · rintro ⟨s', hs', h⟩
    rw [List.mem_filterMap] at h
    obtain ⟨t', ht', e⟩ := h
    by_cases q : s' = t'
    · simp [q] at e
    · simp [q] at e
      obtain ⟨rfl, rfl⟩ := e
      exact ⟨List.mem_range.mp hs', List.mem_range.mp ht', q⟩
  · rintro ⟨h1, h2, h3⟩
    exact ⟨s, List.mem_range.mpr h1, List.mem_filterMap.mpr ⟨t, List.mem_range.mpr h2, by simp [h3]⟩⟩
theorem findSome_some {α β : Type} {f : α → Option β} : ∀ {l : List α} {b : β}, l.findSome? f = some b → ∃ a ∈ l, f a = some b
  | [], _, h => by cases h
  | a :: l, b, h => by
    rw [List.findSome?_cons] at h
    cases e : f a with
    | none =>
      rw [e] at h
      obtain ⟨c, hc, hf⟩ := findSome_some h
      exact ⟨c, List.mem_cons_of_mem _ hc, hf⟩
    | some c =>
      rw [e] at h
      cases h
      exact ⟨a, List.mem_cons_self, e⟩
theorem findSome_none {α β : Type} {f : α → Option β} : ∀ {l : List α}, l.findSome? f = none → ∀ a ∈ l, f a = none
  | [], _, _, h => absurd h List.not_mem_nil
  | a :: l, h, b, hb => by
    rw [List.findSome?_cons] at h
    cases e : f a with
    | none =>
      rw [e] at h
      rcases List.mem_cons.mp hb with rfl | hb
      · exact e
      · exact findSome_none h b hb
    | some c => rw [e] at h; cases h
theorem better_some {n : Nat} {f base x y : List Int} (h : better n f base x = some y) : ∃ s t a, s < n ∧ t < n ∧ s ≠ t ∧ 2 ≤ tot base x s - tot base x t ∧ 1 ≤ a ∧ 2 * a ≤ tot base x s - tot base x t ∧ a ≤ slack f x s t ∧ y = moved s t a x := by
  obtain ⟨⟨s, t⟩, hm, e⟩ := findSome_some h
  obtain ⟨h1, h2, h3⟩ := mem_pairs.mp hm
  simp only at e
  by_cases q : nth base s + nth x s - nth base t - nth x t < 2
  · rw [if_pos q] at e; cases e
  · rw [if_neg q] at e
    by_cases r : min ((nth base s + nth x s - nth base t - nth x t) / 2) (slack f x s t) < 1
    · rw [if_pos r] at e; cases e
    · rw [if_neg r] at e
      refine ⟨s, t, _, h1, h2, h3, ?_, ?_, ?_, ?_, (Option.some.inj e).symm⟩
      · simp only [tot]; omega
      · omega
      · simp only [tot]; omega
      · omega
theorem better_none {n : Nat} {f base x : List Int} (h : better n f base x = none) {s t : Nat} (hs : s < n) (ht : t < n) (hd : 2 ≤ tot base x s - tot base x t) : slack f x s t < 1 := by
  have hst : s ≠ t := by intro e; subst e; omega
  have e := findSome_none h (s, t) (mem_pairs.mpr ⟨hs, ht, hst⟩)
  simp only at e
  simp only [tot] at hd
  rw [if_neg (by omega)] at e
  by_cases r : min ((nth base s + nth x s - nth base t - nth x t) / 2) (slack f x s t) < 1
  · omega
  · rw [if_neg r] at e; cases e
theorem earlier_some {n : Nat} {f base x y : List Int} (h : earlier n f base x = some y) : ∃ s t, s < n ∧ t < n ∧ s < t ∧ tot base x s = tot base x t + 1 ∧ 1 ≤ slack f x s t ∧ y = moved s t 1 x := by
  obtain ⟨⟨s, t⟩, hm, e⟩ := findSome_some h
  obtain ⟨h1, h2, h3⟩ := mem_pairs.mp hm
  simp only at e
  by_cases q : nth base s + nth x s - nth base t - nth x t = 1 ∧ s < t ∧ 1 ≤ slack f x s t
  · rw [if_pos q] at e
    exact ⟨s, t, h1, h2, q.2.1, by simp only [tot]; omega, q.2.2, (Option.some.inj e).symm⟩
  · rw [if_neg q] at e; cases e
theorem earlier_none {n : Nat} {f base x : List Int} (h : earlier n f base x = none) {s t : Nat} (hs : s < n) (ht : t < n) (hst : s < t) (hd : tot base x s = tot base x t + 1) : slack f x s t < 1 := by
  have e := findSome_none h (s, t) (mem_pairs.mpr ⟨hs, ht, by omega⟩)
  simp only at e
  simp only [tot] at hd
  by_cases r : slack f x s t < 1
  · exact r
  · rw [if_pos (by omega)] at e; cases e
theorem repeated_end {F : List Int → Option (List Int)} {I : List Int → Prop} {μ : List Int → Nat} (step : ∀ x y, I x → F x = some y → I y ∧ μ y < μ x) :
    ∀ k x, I x → μ x ≤ k → I (repeated F k x) ∧ F (repeated F k x) = none
  | 0, x, hI, hk => by
    refine ⟨hI, ?_⟩
    show F x = none
    cases e : F x with
    | none => rfl
    | some y => have := (step x y hI e).2; omega
  | k + 1, x, hI, hk => by
    unfold repeated
    cases e : F x with
    | none => exact ⟨hI, e⟩
    | some y =>
      have := step x y hI e
      exact repeated_end step k y this.1 (by omega)
theorem S_single (v : Nat → Int) (t : Nat) : ∀ n, S v (2 ^ t) n = if t < n then v t else 0
  | 0 => by simp [S]
  | n + 1 => by
    rw [S, S_single v t n, two_pow_bit]
    by_cases e : t = n
    · subst e; simp
    · by_cases h : t < n
      · have : t < n + 1 := by omega
        simp [e, h, this]
      · have : ¬ t < n + 1 := by omega
        simp [e, h, this]
theorem InB_nonneg {n : Nat} {g v : Nat → Int} (B : InB n g v) (h0 : ∀ p, 0 ≤ g p) {t : Nat} (ht : t < n) : 0 ≤ v t := by
  have := B.ge (2 ^ t) (Nat.pow_lt_pow_right (by omega) ht)
  rw [S_single, if_pos ht] at this
  have := h0 (2 ^ t)
  omega
theorem InB_most {n : Nat} {g v : Nat → Int} (B : InB n g v) (h0 : ∀ p, 0 ≤ g p) {t : Nat} (ht : t < n) : v t ≤ g (2 ^ n - 1) := by
  have h1 := S_upd v (2 ^ n - 1) t 0 n
  have h2 : 0 ≤ S (upd v t 0) (2 ^ n - 1) n := S_nonneg fun u hu _ => by
    by_cases e : u = t
    · subst e; rw [upd_self]; omega
    · rw [upd_ne e]; exact InB_nonneg B h0 hu
  rw [full_bit, if_pos ⟨ht, by simpa using ht⟩, B.all] at h1
  omega
section
variable {n : Nat} {base : List Int} {loads : List Load}
theorem Good.sup (H : Good n base loads) : Super n (forced loads) :=
  forced_super fun x hx => ⟨(H.ld x hx).1, fun r hr => ((H.ld x hx).2.1 r hr).1, (H.ld x hx).2.2.2⟩
theorem Good.full (H : Good n base loads) : forced loads (2 ^ n - 1) ≤ 8000000000 := by
  rw [forced_full fun x hx => ⟨(H.ld x hx).1, (H.ld x hx).2.2.1.1⟩]
  have h : ∀ l : List Load, (∀ x ∈ l, x.need ≤ 1000000000) → (l.map fun x => x.need).sum ≤ 1000000000 * (l.length : Int) := by
    intro l
    induction l with
    | nil => intro _; simp
    | cons x l ih =>
      intro h
      have h1 := h x List.mem_cons_self
      have h2 := ih fun y hy => h y (List.mem_cons_of_mem _ hy)
      simp only [List.map_cons, List.sum_cons, List.length_cons]
      omega
  have h1 := h loads fun x hx => (H.ld x hx).2.2.1.2
  have h2 := H.l8
  omega
theorem Good.bs (H : Good n base loads) (t : Nat) : 0 ≤ nth base t ∧ nth base t ≤ 1000000000 := by
  by_cases e : t < base.length
  · exact H.b0 _ (nth_mem e)
  · simp [nth, List.getElem?_eq_none (Nat.le_of_not_lt e)]
def Inv (n : Nat) (loads : List Load) (x : List Int) : Prop := x.length = n ∧ InB n (forced loads) (nth x)
theorem Inv.bounds (H : Good n base loads) {x : List Int} (I : Inv n loads x) {t : Nat} (ht : t < n) : 0 ≤ tot base x t ∧ tot base x t ≤ 9000000000 := by
  have h1 := InB_nonneg I.2 (forced_nonneg loads) ht
  have h2 := InB_most I.2 (forced_nonneg loads) ht
  have h3 := H.full
  have h4 := H.bs t
  unfold tot
  omega
def mu1 (n : Nat) (base x : List Int) : Nat := (S (fun t => tot base x t * tot base x t) (2 ^ n - 1) n).toNat
def mu2 (n : Nat) (base x : List Int) : Nat := (S (fun t => ((n : Int) - t) * tot base x t) (2 ^ n - 1) n).toNat
theorem card_le (p : Nat) : ∀ n, 0 ≤ card p n ∧ card p n ≤ n
  | 0 => by simp [card, S]
  | n + 1 => by
    have := card_le p n
    unfold card at this ⊢
    simp only [S]
    cases p.testBit n <;> simp <;> omega
theorem card_full (n : Nat) : card (2 ^ n - 1) n = n := by
  have h : ∀ k, k ≤ n → card (2 ^ n - 1) k = k := by
    intro k
    induction k with
    | zero => intro _; rfl
    | succ k ih =>
      intro hk
      have ih := ih (by omega)
      unfold card at ih ⊢
      simp only [S, ih, full_bit]
      have : k < n := by omega
      simp [this]
  exact h n (Nat.le_refl _)
theorem mu1_le (H : Good n base loads) {x : List Int} (I : Inv n loads x) : mu1 n base x ≤ ENOUGH := by
  have h1 : S (fun t => tot base x t * tot base x t) (2 ^ n - 1) n ≤ S (fun _ => 9000000000 * 9000000000) (2 ^ n - 1) n := S_le fun t ht _ => by
    have := I.bounds H ht
    exact Int.mul_le_mul this.2 this.2 this.1 (by omega)
  rw [S_const, card_full] at h1
  have := H.n8
  unfold mu1 ENOUGH
  omega
theorem mu2_le (H : Good n base loads) {x : List Int} (I : Inv n loads x) : mu2 n base x ≤ ENOUGH := by
  have h1 : S (fun t => ((n : Int) - t) * tot base x t) (2 ^ n - 1) n ≤ S (fun _ => 8 * 9000000000) (2 ^ n - 1) n := S_le fun t ht _ => by
    have := I.bounds H ht
    have := H.n8
    exact Int.mul_le_mul (by omega) (by omega) (by omega) (by omega)
  rw [S_const, card_full] at h1
  have := H.n8
  unfold mu2 ENOUGH
  omega
theorem moved_Inv {x : List Int} {s t : Nat} {a : Int} (I : Inv n loads x) (hs : s < n) (ht : t < n) (hst : s ≠ t) (ha : 0 ≤ a) (hsl : a ≤ slack (table n loads) x s t) : Inv n loads (moved s t a x) := by
  refine ⟨by rw [length_moved, I.1], ?_⟩
  have e : nth (moved s t a x) = mv (nth x) s t a := funext fun u => nth_moved (by rw [I.1]; exact hs) (by rw [I.1]; exact ht) hst u
  rw [e]
  exact mv_InB I.2 hs ht ha fun p hp h1 h2 => Int.le_trans hsl (slack_le (table_tells n loads) I.1 hp h1 h2)
theorem S_mv_sum (w : Nat → Int → Int) (v : Nat → Int) {s t : Nat} (a : Int) (hs : s < n) (ht : t < n) (hst : s ≠ t) :
    S (fun u => w u (mv v s t a u)) (2 ^ n - 1) n = S (fun u => w u (v u)) (2 ^ n - 1) n + (w s (v s - a) - w s (v s)) + (w t (v t + a) - w t (v t)) := by
  have e : (fun u => w u (mv v s t a u)) = upd (upd (fun u => w u (v u)) s (w s (v s - a))) t (w t (v t + a)) := by
    funext u
    unfold upd mv
    by_cases e1 : u = t
    · subst e1
      rw [if_pos rfl, if_neg (fun h => hst h.symm), if_pos rfl]
      congr 1; omega
    · rw [if_neg e1, if_neg e1]
      by_cases e2 : u = s
      · subst e2
        rw [if_pos rfl, if_pos rfl]
        congr 1; omega
      · rw [if_neg e2, if_neg e2]
        congr 1; omega
  rw [e, S_upd, S_upd, full_bit, full_bit, if_pos ⟨hs, by simpa using hs⟩, if_pos ⟨ht, by simpa using ht⟩, upd_ne (fun h => hst h.symm)]
theorem sq_nonneg (z : Int) : 0 ≤ z * z := by
  rcases Int.le_total 0 z with h | h
  · exact Int.mul_nonneg h h
  · exact Int.mul_nonneg_of_nonpos_of_nonpos h h
theorem better_step (H : Good n base loads) (x y : List Int) (I : Inv n loads x) (h : better n (table n loads) base x = some y) : Inv n loads y ∧ mu1 n base y < mu1 n base x := by
  obtain ⟨s, t, a, hs, ht, hst, hd, ha, ha2, hsl, rfl⟩ := better_some h
  have I' := moved_Inv I hs ht hst (by omega) hsl
  refine ⟨I', ?_⟩
  unfold mu1
  have e : (fun u => tot base (moved s t a x) u * tot base (moved s t a x) u) = fun u => (fun (_ : Nat) (z : Int) => z * z) u (mv (tot base x) s t a u) := by
    rw [tot_moved (by rw [I.1]; exact hs) (by rw [I.1]; exact ht) hst]
  rw [e, S_mv_sum (n := n) (fun (_ : Nat) (z : Int) => z * z) (tot base x) a hs ht hst]
  have hnn : 0 ≤ S (fun u => (fun (_ : Nat) (z : Int) => z * z) u (mv (tot base x) s t a u)) (2 ^ n - 1) n := by
    apply S_nonneg
    intro t _ _
    exact sq_nonneg _
  rw [S_mv_sum (n := n) (fun (_ : Nat) (z : Int) => z * z) (tot base x) a hs ht hst] at hnn
  have key : ((tot base x s - a) * (tot base x s - a) - tot base x s * tot base x s) + ((tot base x t + a) * (tot base x t + a) - tot base x t * tot base x t) = -(2 * (a * ((tot base x s - tot base x t) - a))) := by
    generalize tot base x s = A
    generalize tot base x t = B
    simp only [Int.sub_mul, Int.mul_sub, Int.add_mul, Int.mul_add, Int.mul_comm a A, Int.mul_comm a B]
    omega
  have pos : 1 ≤ a * ((tot base x s - tot base x t) - a) := by
    have : 0 < a * ((tot base x s - tot base x t) - a) := Int.mul_pos (by omega) (by omega)
    omega
  omega
theorem slack_apart (H : Good n base loads) {x : List Int} (I : Inv n loads x) {s t : Nat} (hs : s < n) (hst : s ≠ t) (h : slack (table n loads) x s t < 1) : Apart n (gT n base (forced loads)) (tot base x) s t := by
  obtain ⟨p, hp, h1, h2, e⟩ := slack_at (table_tells n loads) I.1 hs hst
  have := I.2.ge p hp
  refine ⟨p, ⟨hp, ?_⟩, h1, h2⟩
  rw [S_tot]
  simp only [gT]
  omega
theorem earlier_step (H : Good n base loads) (x y : List Int) (I : Inv n loads x ∧ Level n (gT n base (forced loads)) (tot base x)) (h : earlier n (table n loads) base x = some y) :
    (Inv n loads y ∧ Level n (gT n base (forced loads)) (tot base y)) ∧ mu2 n base y < mu2 n base x := by
  obtain ⟨s, t, hs, ht, hst, hd, hsl, rfl⟩ := earlier_some h
  have hne : s ≠ t := by omega
  have I' := moved_Inv I.1 hs ht hne (by omega) hsl
  have e1 : tot base (moved s t 1 x) = mv (tot base x) s t 1 := tot_moved (by rw [I.1.1]; exact hs) (by rw [I.1.1]; exact ht) hne
  refine ⟨⟨I', ?_⟩, ?_⟩
  · rw [e1]
    refine mv_Level (gT_super H.sup) (InB_tot.mpr I.1.2) I.2 hs ht hd ?_
    rw [← e1]
    exact InB_tot.mpr I'.2
  · unfold mu2
    have hnn : 0 ≤ S (fun u => ((n : Int) - u) * tot base (moved s t 1 x) u) (2 ^ n - 1) n := by
      apply S_nonneg
      intro u hu _
      exact Int.mul_nonneg (by omega) (I'.bounds H hu).1
    have e : (fun u : Nat => ((n : Int) - u) * tot base (moved s t 1 x) u) = fun u => (fun (u : Nat) (z : Int) => ((n : Int) - u) * z) u (mv (tot base x) s t 1 u) := by
      rw [e1]
    rw [e, S_mv_sum (n := n) (fun (u : Nat) (z : Int) => ((n : Int) - u) * z) (tot base x) 1 hs ht hne] at hnn
    rw [e, S_mv_sum (n := n) (fun (u : Nat) (z : Int) => ((n : Int) - u) * z) (tot base x) 1 hs ht hne]
    have k1 : ((n : Int) - s) * (tot base x s - 1) = ((n : Int) - s) * tot base x s - ((n : Int) - s) := by rw [Int.mul_sub, Int.mul_one]
    have k2 : ((n : Int) - t) * (tot base x t + 1) = ((n : Int) - t) * tot base x t + ((n : Int) - t) := by rw [Int.mul_add, Int.mul_one]
    simp only [k1, k2] at hnn ⊢
    omega
theorem level_ok (H : Good n base loads) : (level n base loads).length = n ∧ InB n (gT n base (forced loads)) (tot base (level n base loads)) ∧ Fixed n (gT n base (forced loads)) (tot base (level n base loads)) := by
  have I0 : Inv n loads (first n (table n loads)) := ⟨length_first _ _, first_InB H.sup (table_tells n loads)⟩
  have h1 := repeated_end (F := better n (table n loads) base) (I := Inv n loads) (μ := mu1 n base) (better_step H) ENOUGH _ I0 (mu1_le H I0)
  have L1 : Level n (gT n base (forced loads)) (tot base (repeated (better n (table n loads) base) ENOUGH (first n (table n loads)))) := fun s t hs ht hlt =>
    slack_apart H h1.1 hs (by intro e; subst e; omega) (better_none h1.2 hs ht (by omega))
  have h2 := repeated_end (F := earlier n (table n loads) base) (I := fun x => Inv n loads x ∧ Level n (gT n base (forced loads)) (tot base x)) (μ := mu2 n base) (earlier_step H) ENOUGH _ ⟨h1.1, L1⟩ (mu2_le H h1.1)
  refine ⟨h2.1.1.1, InB_tot.mpr h2.1.1.2, fun s t hs ht hor => ?_⟩
  rcases hor with hlt | ⟨he, hst⟩
  · exact h2.1.2 s t hs ht hlt
  · have hne : s ≠ t := by omega
    exact slack_apart H h2.1.1 hs hne (earlier_none h2.2 hs ht hst (show tot base (level n base loads) s = tot base (level n base loads) t + 1 by omega))
end
end Lev
end
section
set_option linter.all false
namespace Lev
open Vbemat
def setSums (vs : List Int) : List Int := vs.foldl (fun sums v => sums ++ sums.map (fun b => b + v)) [0]
def roundedUp (a b : Int) : Int := (a + b - 1) / b
def levelStep (least sizes : List Int) (done : Nat) (m : Int) (wider : Nat) : Int :=
  if wider ≠ done ∧ wider &&& done = done then max m (roundedUp (nth least wider - nth least done) (nth sizes wider - nth sizes done)) else m
def nextLevel (least sizes : List Int) (done : Nat) : Int := (List.range least.length).foldl (levelStep least sizes done) 0
def beyond (least sizes : List Int) (done : Nat) (level : Int) (wider : Nat) : Int :=
  nth least wider - nth least done - (level - 1) * (nth sizes wider - nth sizes done)
def doneStep (least sizes : List Int) (done : Nat) (level : Int) (st : Nat × Int) (wider : Nat) : Nat × Int :=
  if wider &&& done = done then (if st.2 < beyond least sizes done level wider then (wider, beyond least sizes done level wider) else st) else st
def nextDone (least sizes : List Int) (done : Nat) (level : Int) : Nat := ((List.range least.length).foldl (doneStep least sizes done level) (done, 0)).1
def canHold (totals least : List Int) (found : Nat) : Bool :=
  (List.range (setSums totals).length).all fun part => !(decide (part &&& found = part) && decide (nth (setSums totals) part < nth least part))
def lower (least : List Int) (found : Nat) (level : Int) (c : List Int) (t : Nat) : List Int :=
  if canHold (setAt (level - 1) t c) least found then setAt (level - 1) t c else setAt level t (setAt (level - 1) t c)
def insideOf (n found done : Nat) : List Nat := (List.range n).filter fun t => (found - done).testBit t
def putLevel (totals least : List Int) (done found : Nat) (level : Int) : List Int :=
  (insideOf totals.length found done).foldl (lower least found level) ((insideOf totals.length found done).foldl (fun c t => setAt level t c) totals)
def planLoop (least sizes : List Int) : Nat → List Int → Nat → List Int
  | 0, totals, _ => totals
  | k + 1, totals, done => if done < least.length - 1 then
      planLoop least sizes k (putLevel totals least done (nextDone least sizes done (nextLevel least sizes done)) (nextLevel least sizes done)) (nextDone least sizes done (nextLevel least sizes done))
    else totals
def planTotals (n : Nat) (least : List Int) : List Int := planLoop least (setSums (List.replicate n 1)) (2 ^ n) (List.replicate n 0) 0
theorem setSums_snoc (l : List Int) (v : Int) : setSums (l ++ [v]) = setSums l ++ (setSums l).map (fun b => b + v) := by
  simp [setSums, List.foldl_append]
theorem length_setSums (l : List Int) : (setSums l).length = 2 ^ l.length := by
  have h : ∀ n (l : List Int), l.length = n → (setSums l).length = 2 ^ n := by
    intro n
    induction n with
    | zero => intro l h; rw [List.length_eq_zero_iff.mp h]; rfl
    | succ n ih =>
      intro l h
      have hne : l ≠ [] := by intro e; subst e; simp at h
      have e := List.dropLast_concat_getLast hne
      rw [← e, setSums_snoc, List.length_append, List.length_map, ih l.dropLast (by simp; omega), Nat.pow_succ]
      omega
  exact h _ l rfl
theorem nth_append_left {l m : List Int} {i : Nat} (h : i < l.length) : nth (l ++ m) i = nth l i := by
  simp [nth, List.getElem?_append_left h]
theorem nth_append_right {l m : List Int} {i : Nat} (h : l.length ≤ i) : nth (l ++ m) i = nth m (i - l.length) := by
  simp [nth, List.getElem?_append_right h]
theorem nth_map {l : List Int} {i : Nat} (f : Int → Int) (h : i < l.length) : nth (l.map f) i = f (nth l i) := by
  simp [nth, h]
theorem S_nth_snoc (l : List Int) (v : Int) (p : Nat) : S (nth (l ++ [v])) p (l.length + 1) = S (nth l) p l.length + (if p.testBit l.length = true then v else 0) := by
  rw [S]
  congr 1
  · exact S_congr (fun _ _ => rfl) fun t ht _ => nth_append_left ht
  · rw [nth_append_right (Nat.le_refl _)]
    simp [nth]
theorem nth_setSums {l : List Int} {p : Nat} (h : p < 2 ^ l.length) : nth (setSums l) p = S (nth l) p l.length := by
  have h : ∀ n (l : List Int) (p : Nat), l.length = n → p < 2 ^ n → nth (setSums l) p = S (nth l) p n := by
    intro n
    induction n with
    | zero => intro l p h hp; rw [List.length_eq_zero_iff.mp h]; have : p = 0 := by omega
              subst this; rfl
    | succ n ih =>
      intro l p h hp
      have hne : l ≠ [] := by intro e; subst e; simp at h
      have e := List.dropLast_concat_getLast hne
      have hl : l.dropLast.length = n := by simp; omega
      generalize l.dropLast = m at e hl
      generalize l.getLast hne = v at e
      subst e
      rw [setSums_snoc]
      have hs := length_setSums m
      rw [hl] at hs
      subst hl
      rw [S_nth_snoc]
      by_cases q : p < 2 ^ m.length
      · rw [nth_append_left (by omega), ih m p rfl q, Nat.testBit_lt_two_pow q]
        simp
      · have q' : 2 ^ m.length ≤ p := by omega
        rw [Nat.pow_succ] at hp
        rw [nth_append_right (by omega), nth_map _ (by omega), hs, ih m _ rfl (by omega)]
        have hb : p.testBit m.length = true := by
          have e : p = 2 ^ m.length + (p - 2 ^ m.length) := by omega
          rw [e, Nat.testBit_two_pow_add_eq, Nat.testBit_lt_two_pow (by omega)]
          rfl
        rw [hb, if_pos rfl]
        congr 1
        apply S_congr _ fun _ _ _ => rfl
        intro t ht
        have e : p = 2 ^ m.length + (p - 2 ^ m.length) := by omega
        rw [e, Nat.testBit_two_pow_add_gt ht]
        congr 1
        omega
  exact h _ l p rfl (by omega)
theorem setSums_tells {l : List Int} {n : Nat} (h : l.length = n) : Tells n (setSums l) (fun p => S (nth l) p n) := by
  subst h
  exact ⟨length_setSums l, fun p hp => nth_setSums hp⟩
theorem nth_replicate {n t : Nat} (c : Int) (h : t < n) : nth (List.replicate n c) t = c := by
  simp [nth, h]
theorem sizes_tells (n : Nat) : Tells n (setSums (List.replicate n 1)) (fun p => card p n) := by
  have h := setSums_tells (l := List.replicate n 1) (n := n) (by simp)
  refine ⟨h.1, fun p hp => ?_⟩
  rw [h.2 p hp]
  exact S_congr (fun _ _ => rfl) fun t ht _ => nth_replicate 1 ht
def Sub (p q : Nat) : Prop := ∀ t, p.testBit t = true → q.testBit t = true
theorem sub_iff {p q : Nat} : p &&& q = p ↔ Sub p q := by
  constructor
  · intro h t ht
    rw [← h, Nat.testBit_and] at ht
    simp at ht
    exact ht.2
  · intro h
    apply Nat.eq_of_testBit_eq
    intro t
    rw [Nat.testBit_and]
    cases e : p.testBit t with
    | false => rfl
    | true => rw [h t e]; rfl
theorem sub_iff' {p q : Nat} : q &&& p = p ↔ Sub p q := by rw [Nat.and_comm]; exact sub_iff
theorem Sub.refl (p : Nat) : Sub p p := fun _ h => h
theorem Sub.trans {p q r : Nat} (h : Sub p q) (k : Sub q r) : Sub p r := fun t ht => k t (h t ht)
theorem Sub.or {p q r : Nat} (h : Sub p r) (k : Sub q r) : Sub (p ||| q) r := fun t ht => by
  rw [Nat.testBit_or] at ht
  simp at ht
  rcases ht with ht | ht
  · exact h t ht
  · exact k t ht
theorem Sub.and {p q r : Nat} (h : Sub p r) : Sub (p &&& q) r := fun t ht => by
  rw [Nat.testBit_and] at ht
  simp at ht
  exact h t ht.1
theorem Sub.full {p n : Nat} (h : p < 2 ^ n) : Sub p (2 ^ n - 1) := fun t ht => by
  rw [full_bit]
  by_cases e : t < n
  · simpa using e
  · have := Nat.testBit_lt_two_pow (x := p) (i := t) (Nat.lt_of_lt_of_le h (pow_mono (by omega)))
    rw [this] at ht
    cases ht
theorem bit_lt {p n t : Nat} (h : p < 2 ^ n) (ht : p.testBit t = true) : t < n := by
  have := Sub.full h t ht
  rw [full_bit] at this
  simpa using this
theorem Sub.le {p q : Nat} (h : Sub p q) : p ≤ q := by
  have := sub_iff.mpr h
  rw [← this]
  exact Nat.and_le_right
theorem sub_bit : ∀ (t : Nat) {q p : Nat} (h : Sub p q), (q - p).testBit t = (q.testBit t && !p.testBit t)
  | t, q, p, h => by
    have hle := h.le
    have h0 := h 0
    rw [Nat.testBit_zero, Nat.testBit_zero] at h0
    simp at h0
    match t with
    | 0 =>
      rw [Nat.testBit_zero, Nat.testBit_zero, Nat.testBit_zero]
      by_cases hp : p % 2 = 1
      · have hq := h0 hp
        have : ¬ (q - p) % 2 = 1 := by omega
        simp [hp, hq, this]
      · by_cases hq : q % 2 = 1
        · have : (q - p) % 2 = 1 := by omega
          simp [hp, hq, this]
        · have : ¬ (q - p) % 2 = 1 := by omega
          simp [hp, hq, this]
    | t + 1 =>
      have h2 : Sub (p / 2) (q / 2) := fun u hu => by
        rw [← Nat.testBit_succ] at hu ⊢
        exact h _ hu
      have ih := sub_bit t h2
      rw [Nat.testBit_succ, Nat.testBit_succ, Nat.testBit_succ, ← ih]
      congr 1
      omega
theorem card_sub {p q : Nat} (h : Sub p q) (n : Nat) : card p n ≤ card q n := S_sub (fun _ _ => by omega) fun t _ => h t
theorem card_lt {p q n : Nat} (h : Sub p q) (hq : q < 2 ^ n) (hne : p ≠ q) : card p n < card q n := by
  obtain ⟨t, ht⟩ : ∃ t, p.testBit t ≠ q.testBit t := Classical.byContradiction fun hn => hne (Nat.eq_of_testBit_eq fun t => Classical.byContradiction fun k => hn ⟨t, k⟩)
  have hqt : q.testBit t = true := by
    cases e : q.testBit t with
    | true => rfl
    | false =>
      cases e2 : p.testBit t with
      | false => rw [e, e2] at ht; exact absurd rfl ht
      | true => rw [h t e2] at e; cases e
  have hpt : p.testBit t = false := by
    cases e : p.testBit t with
    | false => rfl
    | true => rw [e, hqt] at ht; exact absurd rfl ht
  have h1 : card p n ≤ S (upd (fun _ => 1) t 0) q n := by
    have e : card p n = S (upd (fun _ => 1) t 0) p n := by
      rw [S_upd, hpt]
      simp [card]
    rw [e]
    exact S_sub (fun u _ => by unfold upd; split <;> simp) fun u _ => h u
  rw [S_upd, if_pos ⟨bit_lt hq hqt, hqt⟩] at h1
  unfold card at h1 ⊢
  omega
theorem S_fill {v : Nat → Int} {c : Int} {D F : Nat} (h : Sub D F) : ∀ {n : Nat}, (∀ t, t < n → F.testBit t = true → D.testBit t = false → v t = c) → S v F n = S v D n + c * (card F n - card D n)
  | 0, _ => by simp [S, card]
  | n + 1, hv => by
    have ih := S_fill h (n := n) fun t ht => hv t (by omega)
    have h1 := hv n (by omega)
    have h2 := h n
    unfold card at ih ⊢
    simp only [S]
    cases e : F.testBit n with
    | false =>
      cases e2 : D.testBit n with
      | false => simpa using ih
      | true => rw [h2 e2] at e; cases e
    | true =>
      cases e2 : D.testBit n with
      | false =>
        have := h1 e e2
        simp
        rw [ih, this]
        rw [show S (fun _ => 1) F n + 1 - S (fun _ => 1) D n = (S (fun _ => 1) F n - S (fun _ => 1) D n) + 1 by omega, Int.mul_add]
        omega
      | true =>
        simp
        rw [ih]
        rw [show S (fun _ => 1) F n + 1 - (S (fun _ => 1) D n + 1) = (S (fun _ => 1) F n - S (fun _ => 1) D n) by omega]
        omega
theorem fold_max {α : Type} (c : α → Prop) [DecidablePred c] (r : α → Int) : ∀ (l : List α) (m : Int),
    m ≤ l.foldl (fun m w => if c w then max m (r w) else m) m ∧
    (∀ w ∈ l, c w → r w ≤ l.foldl (fun m w => if c w then max m (r w) else m) m) ∧
    (l.foldl (fun m w => if c w then max m (r w) else m) m = m ∨ ∃ w ∈ l, c w ∧ l.foldl (fun m w => if c w then max m (r w) else m) m = r w)
  | [], m => ⟨Int.le_refl _, fun _ h => absurd h List.not_mem_nil, .inl rfl⟩
  | a :: l, m => by
    obtain ⟨i1, i2, i3⟩ := fold_max c r l (if c a then max m (r a) else m)
    rw [List.foldl_cons]
    by_cases h : c a
    · rw [if_pos h] at i1 i2 i3 ⊢
      refine ⟨by omega, fun w hw hc => ?_, ?_⟩
      · rcases List.mem_cons.mp hw with rfl | hw
        · omega
        · exact i2 w hw hc
      · rcases i3 with i3 | ⟨w, hw, hc, e⟩
        · by_cases q : r a ≤ m
          · left; omega
          · exact .inr ⟨a, List.mem_cons_self, h, by omega⟩
        · exact .inr ⟨w, List.mem_cons_of_mem _ hw, hc, e⟩
    · rw [if_neg h] at i1 i2 i3 ⊢
      refine ⟨i1, fun w hw hc => ?_, ?_⟩
      · rcases List.mem_cons.mp hw with rfl | hw
        · exact absurd hc h
        · exact i2 w hw hc
      · rcases i3 with i3 | ⟨w, hw, hc, e⟩
        · exact .inl i3
        · exact .inr ⟨w, List.mem_cons_of_mem _ hw, hc, e⟩
theorem fold_arg {α : Type} (c : α → Prop) [DecidablePred c] (r : α → Int) : ∀ (l : List α) (st : α × Int),
    st.2 ≤ (l.foldl (fun st w => if c w then (if st.2 < r w then (w, r w) else st) else st) st).2 ∧
    (∀ w ∈ l, c w → r w ≤ (l.foldl (fun st w => if c w then (if st.2 < r w then (w, r w) else st) else st) st).2) ∧
    (l.foldl (fun st w => if c w then (if st.2 < r w then (w, r w) else st) else st) st = st ∨ ∃ w ∈ l, c w ∧ l.foldl (fun st w => if c w then (if st.2 < r w then (w, r w) else st) else st) st = (w, r w))
  | [], st => ⟨Int.le_refl _, fun _ h => absurd h List.not_mem_nil, .inl rfl⟩
  | a :: l, st => by
    obtain ⟨i1, i2, i3⟩ := fold_arg c r l (if c a then (if st.2 < r a then (a, r a) else st) else st)
    rw [List.foldl_cons]
    by_cases h : c a
    · by_cases q : st.2 < r a
      · rw [if_pos h, if_pos q] at i1 i2 i3 ⊢
        simp only at i1
        refine ⟨by omega, fun w hw hc => ?_, ?_⟩
        · rcases List.mem_cons.mp hw with rfl | hw
          · omega
          · exact i2 w hw hc
        · rcases i3 with i3 | ⟨w, hw, hc, e⟩
          · exact .inr ⟨a, List.mem_cons_self, h, i3⟩
          · exact .inr ⟨w, List.mem_cons_of_mem _ hw, hc, e⟩
      · rw [if_pos h, if_neg q] at i1 i2 i3 ⊢
        refine ⟨i1, fun w hw hc => ?_, ?_⟩
        · rcases List.mem_cons.mp hw with rfl | hw
          · omega
          · exact i2 w hw hc
        · rcases i3 with i3 | ⟨w, hw, hc, e⟩
          · exact .inl i3
          · exact .inr ⟨w, List.mem_cons_of_mem _ hw, hc, e⟩
    · rw [if_neg h] at i1 i2 i3 ⊢
      refine ⟨i1, fun w hw hc => ?_, ?_⟩
      · rcases List.mem_cons.mp hw with rfl | hw
        · exact absurd hc h
        · exact i2 w hw hc
      · rcases i3 with i3 | ⟨w, hw, hc, e⟩
        · exact .inl i3
        · exact .inr ⟨w, List.mem_cons_of_mem _ hw, hc, e⟩
end Lev
end
section
set_option linter.all false
namespace Lev
open Vbemat
theorem up_bounds (a : Int) {b : Int} (hb : 0 < b) : (roundedUp a b - 1) * b < a ∧ a ≤ roundedUp a b * b := by
  unfold roundedUp
  have h1 := Int.emod_add_mul_ediv (a + b - 1) b
  have h2 := Int.emod_nonneg (a + b - 1) (show b ≠ 0 by omega)
  have h3 := Int.emod_lt_of_pos (a + b - 1) hb
  generalize (a + b - 1) / b = q at h1 ⊢
  generalize (a + b - 1) % b = r at h1 h2 h3
  rw [Int.sub_mul, Int.mul_comm q b, Int.one_mul]
  omega
section
variable {n : Nat} {g : Nat → Int} {least sizes : List Int}
theorem canHold_iff (T : Tells n least g) {c : List Int} (hc : c.length = n) (F : Nat) : canHold c least F = true ↔ ∀ p, p < 2 ^ n → Sub p F → g p ≤ S (nth c) p n := by
  have U := setSums_tells hc
  unfold canHold
  rw [List.all_eq_true, U.1]
  constructor
  · intro h p hp hs
    have := h p (List.mem_range.mpr hp)
    rw [U.2 p hp, T.2 p hp] at this
    simp [sub_iff.mpr hs] at this
    exact this
  · intro h p hp
    have hp := List.mem_range.mp hp
    rw [U.2 p hp, T.2 p hp]
    by_cases hs : Sub p F
    · have := h p hp hs
      simp [sub_iff.mpr hs]
      exact this
    · have hq : ¬ (p &&& F = p) := fun q => hs (sub_iff.mp q)
      simp [hq]
theorem level_spec (T : Tells n least g) (Z : Tells n sizes (fun p => card p n)) (M : ∀ p q, q < 2 ^ n → Sub p q → g p ≤ g q) {done : Nat} (hd : done < 2 ^ n - 1) :
    (∀ W, W < 2 ^ n → Sub done W → g W - g done ≤ nextLevel least sizes done * (card W n - card done n)) ∧
    ∃ W, W < 2 ^ n ∧ Sub done W ∧ W ≠ done ∧ (nextLevel least sizes done - 1) * (card W n - card done n) < g W - g done := by
  have hd' : done < 2 ^ n := by omega
  have h := fold_max (fun w => w ≠ done ∧ w &&& done = done) (fun w => roundedUp (nth least w - nth least done) (nth sizes w - nth sizes done)) (List.range least.length) 0
  have e : (List.range least.length).foldl (fun m w => if w ≠ done ∧ w &&& done = done then max m (roundedUp (nth least w - nth least done) (nth sizes w - nth sizes done)) else m) 0 = nextLevel least sizes done := rfl
  rw [e] at h
  obtain ⟨h0, h1, h2⟩ := h
  refine ⟨fun W hW hs => ?_, ?_⟩
  · by_cases q : W = done
    · subst q; simp
    · have := h1 W (List.mem_range.mpr (by rw [T.1]; exact hW)) ⟨q, sub_iff'.mpr hs⟩
      simp only [T.2 W hW, T.2 done hd', Z.2 W hW, Z.2 done hd'] at this
      have hc := card_lt hs hW (fun h => q h.symm)
      have hb := (up_bounds (g W - g done) (b := card W n - card done n) (by omega)).2
      exact Int.le_trans hb (Int.mul_le_mul_of_nonneg_right this (by omega))
  · rcases h2 with h2 | ⟨W, hW, ⟨hne, hs⟩, h2⟩
    · have hF := full_lt n
      have hs := Sub.full hd'
      refine ⟨2 ^ n - 1, hF, hs, by omega, ?_⟩
      rw [h2]
      have := M done _ hF hs
      have hc := card_lt hs hF (by omega)
      omega
    · have hW := List.mem_range.mp hW
      rw [T.1] at hW
      have hs := sub_iff'.mp hs
      simp only [T.2 W hW, T.2 done hd', Z.2 W hW, Z.2 done hd'] at h2
      refine ⟨W, hW, hs, hne, ?_⟩
      have hc := card_lt hs hW (fun h => hne h.symm)
      have hb := (up_bounds (g W - g done) (b := card W n - card done n) (by omega)).1
      rw [h2]
      exact hb
theorem done_spec (T : Tells n least g) (Z : Tells n sizes (fun p => card p n)) {done : Nat} (hd : done < 2 ^ n) {l : Int}
    (hw : ∃ W, W < 2 ^ n ∧ Sub done W ∧ W ≠ done ∧ (l - 1) * (card W n - card done n) < g W - g done) :
    nextDone least sizes done l < 2 ^ n ∧ Sub done (nextDone least sizes done l) ∧ nextDone least sizes done l ≠ done ∧
    ∀ W, W < 2 ^ n → Sub done W → g W - (l - 1) * card W n ≤ g (nextDone least sizes done l) - (l - 1) * card (nextDone least sizes done l) n := by
  have h := fold_arg (fun w => w &&& done = done) (beyond least sizes done l) (List.range least.length) (done, 0)
  have e : (List.range least.length).foldl (fun st w => if w &&& done = done then (if st.2 < beyond least sizes done l w then (w, beyond least sizes done l w) else st) else st) (done, 0) = (List.range least.length).foldl (doneStep least sizes done l) (done, 0) := rfl
  rw [e] at h
  have hr : ∀ W, W < 2 ^ n → beyond least sizes done l W = g W - g done - (l - 1) * (card W n - card done n) := fun W hW => by
    unfold beyond
    rw [T.2 W hW, T.2 done hd, Z.2 W hW, Z.2 done hd]
  unfold nextDone
  generalize (List.range least.length).foldl (doneStep least sizes done l) (done, 0) = st at h
  obtain ⟨h0, h1, h2⟩ := h
  obtain ⟨W, hW, hs, hne, hlt⟩ := hw
  have k1 := h1 W (List.mem_range.mpr (by rw [T.1]; exact hW)) (sub_iff'.mpr hs)
  rw [hr W hW] at k1
  rcases h2 with h2 | ⟨F, hF, hsF, h2⟩
  · rw [h2] at k1
    simp only at k1
    omega
  · have hF := List.mem_range.mp hF
    rw [T.1] at hF
    rw [h2] at k1 h1 ⊢
    simp only at k1 h1 ⊢
    refine ⟨hF, sub_iff'.mp hsF, ?_, fun V hV hsV => ?_⟩
    · intro e
      rw [hr F hF, e] at k1
      simp at k1
      omega
    · have := h1 V (List.mem_range.mpr (by rw [T.1]; exact hV)) (sub_iff'.mpr hsV)
      rw [hr V hV, hr F hF, Int.mul_sub, Int.mul_sub] at this
      omega
theorem nth_set_all (l : Int) : ∀ (L : List Nat) (c : List Int), (∀ t ∈ L, t < c.length) → (L.foldl (fun c t => setAt l t c) c).length = c.length ∧ ∀ t, nth (L.foldl (fun c t => setAt l t c) c) t = if t ∈ L then l else nth c t
  | [], c, _ => by simp
  | s :: L, c, h => by
    obtain ⟨i1, i2⟩ := nth_set_all l L (setAt l s c) fun t ht => by rw [length_setAt]; exact h t (List.mem_cons_of_mem _ ht)
    rw [List.foldl_cons]
    refine ⟨by rw [i1, length_setAt], fun t => ?_⟩
    rw [i2, nth_setAt _ _ _ _ (h s List.mem_cons_self)]
    by_cases e : t ∈ L
    · have : t ∈ s :: L := List.mem_cons_of_mem _ e
      rw [if_pos e, if_pos this]
    · rw [if_neg e]
      by_cases q : t = s
      · rw [if_pos q, if_pos (by rw [q]; exact List.mem_cons_self)]
      · rw [if_neg q, if_neg (by intro k; rcases List.mem_cons.mp k with k | k; exact q k; exact e k)]
theorem nth_fun_set {x : Int} {l : List Int} {i : Nat} (h : i < l.length) : nth (setAt x i l) = upd (nth l) i x := by
  funext j
  rw [nth_setAt _ _ _ _ h]
  rfl
theorem greedy (T : Tells n least g) (F : Nat) (l : Int) : ∀ (L : List Nat) (c : List Int), c.length = n → L.Pairwise (· < ·) → (∀ t ∈ L, t < n) → (∀ t ∈ L, nth c t = l) → (∀ p, p < 2 ^ n → Sub p F → g p ≤ S (nth c) p n) →
    (L.foldl (lower least F l) c).length = n ∧ (∀ p, p < 2 ^ n → Sub p F → g p ≤ S (nth (L.foldl (lower least F l) c)) p n) ∧ (∀ t, t ∉ L → nth (L.foldl (lower least F l) c) t = nth c t) ∧
    (∀ t, nth (L.foldl (lower least F l) c) t ≤ nth c t) ∧
    ∀ s ∈ L, nth (L.foldl (lower least F l) c) s = l - 1 ∨ (nth (L.foldl (lower least F l) c) s = l ∧ ∃ p, p < 2 ^ n ∧ Sub p F ∧ p.testBit s = true ∧ S (nth (L.foldl (lower least F l) c)) p n = g p ∧ ∀ t ∈ L, s < t → nth (L.foldl (lower least F l) c) t = l - 1 → p.testBit t = false)
  | [], c, hc, _, _, _, hg => ⟨hc, hg, fun _ _ => rfl, fun _ => Int.le_refl _, fun s hs => absurd hs List.not_mem_nil⟩
  | s :: L, c, hc, hp, hn, hl, hg => by
    have hs := hn s List.mem_cons_self
    have hls := hl s List.mem_cons_self
    obtain ⟨hlt, hp'⟩ := List.pairwise_cons.mp hp
    have hsL : s ∉ L := fun h => Nat.lt_irrefl _ (hlt s h)
    rw [List.foldl_cons]
    have hc1 : (setAt (l - 1) s c).length = n := by rw [length_setAt]; exact hc
    have e1 : nth (setAt (l - 1) s c) = upd (nth c) s (l - 1) := nth_fun_set (by omega)
    have e2 : nth (setAt l s (setAt (l - 1) s c)) = nth c := by
      rw [nth_fun_set (by omega), e1]
      funext t
      unfold upd
      by_cases q : t = s
      · rw [if_pos q, q, hls]
      · rw [if_neg q, if_neg q]
    by_cases hh : canHold (setAt (l - 1) s c) least F = true
    · have ed : lower least F l c s = setAt (l - 1) s c := by unfold lower; rw [if_pos hh]
      rw [ed]
      obtain ⟨i1, i2, i3, i4, i5⟩ := greedy T F l L (setAt (l - 1) s c) hc1 hp' (fun t ht => hn t (List.mem_cons_of_mem _ ht))
        (fun t ht => by rw [e1, upd_ne (by rintro rfl; exact hsL ht)]; exact hl t (List.mem_cons_of_mem _ ht)) ((canHold_iff T hc1 F).mp hh)
      generalize L.foldl (lower least F l) (setAt (l - 1) s c) = z at i1 i2 i3 i4 i5
      refine ⟨i1, i2, fun t ht => ?_, fun t => ?_, fun u hu => ?_⟩
      · rw [i3 t (fun q => ht (List.mem_cons_of_mem _ q)), e1, upd_ne (by rintro rfl; exact ht List.mem_cons_self)]
      · have := i4 t
        rw [e1] at this
        unfold upd at this
        by_cases q : t = s
        · rw [if_pos q] at this; rw [q, hls]; rw [q] at this; omega
        · rw [if_neg q] at this; exact this
      · rcases List.mem_cons.mp hu with rfl | hu'
        · left
          rw [i3 u hsL, e1, upd_self]
        · rcases i5 u hu' with h | ⟨h, p, p1, p2, p3, p4, p5⟩
          · exact .inl h
          · refine .inr ⟨h, p, p1, p2, p3, p4, fun t ht hut => ?_⟩
            rcases List.mem_cons.mp ht with rfl | ht
            · have := hlt u hu'; omega
            · exact p5 t ht hut
    · have ed : lower least F l c s = setAt l s (setAt (l - 1) s c) := by unfold lower; rw [if_neg hh]
      rw [ed]
      have hn1 : ∃ p, p < 2 ^ n ∧ Sub p F ∧ S (upd (nth c) s (l - 1)) p n < g p := by
        apply Classical.byContradiction
        intro hno
        apply hh
        rw [canHold_iff T hc1]
        intro p hp hsub
        rw [e1]
        apply Classical.byContradiction
        intro q
        exact hno ⟨p, hp, hsub, by omega⟩
      obtain ⟨p, p1, p2, p3⟩ := hn1
      have hgp := hg p p1 p2
      have hps : p.testBit s = true := by
        cases e : p.testBit s with
        | true => rfl
        | false =>
          rw [S_upd, e] at p3
          simp at p3
          omega
      have heq : S (nth c) p n = g p := by
        rw [S_upd, if_pos ⟨hs, hps⟩, hls] at p3
        omega
      obtain ⟨i1, i2, i3, i4, i5⟩ := greedy T F l L (setAt l s (setAt (l - 1) s c)) (by rw [length_setAt]; exact hc1) hp' (fun t ht => hn t (List.mem_cons_of_mem _ ht))
        (fun t ht => by rw [e2]; exact hl t (List.mem_cons_of_mem _ ht)) (by rw [e2]; exact hg)
      rw [e2] at i3 i4
      generalize L.foldl (lower least F l) (setAt l s (setAt (l - 1) s c)) = z at i1 i2 i3 i4 i5
      refine ⟨i1, i2, fun t ht => i3 t (fun q => ht (List.mem_cons_of_mem _ q)), i4, fun u hu => ?_⟩
      rcases List.mem_cons.mp hu with rfl | hu'
      · right
        have hle : S (nth z) p n ≤ S (nth c) p n := S_le fun t _ _ => i4 t
        have hge := i2 p p1 p2
        refine ⟨by rw [i3 u hsL, hls], p, p1, p2, hps, by omega, fun t ht hut hz => ?_⟩
        cases e : p.testBit t with
        | false => rfl
        | true =>
          have : S (nth z) p n < S (nth c) p n := S_lt (fun t _ _ => i4 t) (hn t ht) e (by rw [hz, hl t ht]; omega)
          omega
      · rcases i5 u hu' with h | ⟨h, p, p1, p2, p3, p4, p5⟩
        · exact .inl h
        · refine .inr ⟨h, p, p1, p2, p3, p4, fun t ht hut => ?_⟩
          rcases List.mem_cons.mp ht with rfl | ht
          · have := hlt u hu'; omega
          · exact p5 t ht hut
structure Done (n : Nat) (g : Nat → Int) (c : List Int) (done : Nat) : Prop where
  len : c.length = n
  lt : done < 2 ^ n
  ge : ∀ p, p < 2 ^ n → Sub p done → g p ≤ S (nth c) p n
  all : S (nth c) done n = g done
  fixed : ∀ s t, done.testBit s = true → done.testBit t = true → (nth c t < nth c s - 1 ∨ (nth c t = nth c s - 1 ∧ s < t)) → ∃ p, p < 2 ^ n ∧ Sub p done ∧ S (nth c) p n = g p ∧ p.testBit s = true ∧ p.testBit t = false
  cap : ∀ t, done.testBit t = true → ∀ W, W < 2 ^ n → Sub done W → g W - g done ≤ nth c t * (card W n - card done n)
theorem done_start (G : Super n g) : Done n g (List.replicate n 0) 0 where
  len := by simp
  lt := Nat.two_pow_pos n
  ge := fun p hp hs => by
    have : p = 0 := by have := hs.le; omega
    subst this
    rw [G.zero, S_zero_set]
    exact Int.le_refl _
  all := by rw [S_zero_set, G.zero]
  fixed := fun s t hs => by rw [Nat.zero_testBit] at hs; cases hs
  cap := fun t ht => by rw [Nat.zero_testBit] at ht; cases ht
theorem mem_inside {F d t : Nat} (h : Sub d F) : t ∈ insideOf n F d ↔ t < n ∧ F.testBit t = true ∧ d.testBit t = false := by
  unfold insideOf
  rw [List.mem_filter, List.mem_range, sub_bit t h]
  simp
theorem inside_sorted (F d : Nat) : (insideOf n F d).Pairwise (· < ·) := List.Pairwise.filter _ List.pairwise_lt_range
theorem done_step (G : Super n g) (T : Tells n least g) {c : List Int} {done F : Nat} {l : Int} (D : Done n g c done) (hF : F < 2 ^ n) (hs : Sub done F)
    (hl : ∀ W, W < 2 ^ n → Sub done W → g W - g done ≤ l * (card W n - card done n))
    (hw : ∃ W, W < 2 ^ n ∧ Sub done W ∧ W ≠ done ∧ (l - 1) * (card W n - card done n) < g W - g done)
    (hm : ∀ W, W < 2 ^ n → Sub done W → g W - (l - 1) * card W n ≤ g F - (l - 1) * card F n) : Done n g (putLevel c least done F l) F := by
  have hcap : ∀ t, done.testBit t = true → l ≤ nth c t := by
    intro t ht
    obtain ⟨W, hW, hsW, hne, hlt⟩ := hw
    have h1 := D.cap t ht W hW hsW
    have hc := card_lt hsW hW (fun h => hne h.symm)
    apply Classical.byContradiction
    intro q
    have : nth c t * (card W n - card done n) ≤ (l - 1) * (card W n - card done n) := Int.mul_le_mul_of_nonneg_right (by omega) (by omega)
    omega
  unfold putLevel
  rw [D.len]
  have hin : ∀ t ∈ insideOf n F done, t < c.length := fun t ht => by rw [D.len]; exact ((mem_inside hs).mp ht).1
  obtain ⟨a1, a2⟩ := nth_set_all l (insideOf n F done) c hin
  have hsort := inside_sorted (n := n) F done
  have hmem := fun t => mem_inside (n := n) (t := t) hs
  generalize insideOf n F done = L at a1 a2 hsort hmem hin
  generalize L.foldl (fun c t => setAt l t c) c = c1 at a1 a2
  have c1len : c1.length = n := by rw [a1, D.len]
  have hdone1 : ∀ t, done.testBit t = true → nth c1 t = nth c t := fun t ht => by
    rw [a2, if_neg (fun q => by have := ((hmem t).mp q).2.2; rw [ht] at this; cases this)]
  have hge1 : ∀ p, p < 2 ^ n → Sub p F → g p ≤ S (nth c1) p n := by
    intro p hp hpF
    have hpd : p &&& done < 2 ^ n := Nat.and_lt_two_pow p D.lt
    have hpo : p ||| done < 2 ^ n := Nat.or_lt_two_pow hp D.lt
    have k1 := D.ge (p &&& done) hpd (by rw [Nat.and_comm]; exact (Sub.refl done).and)
    have k2 := hl (p ||| done) hpo (fun t ht => by rw [Nat.testBit_or, ht]; simp)
    have k3 := G.sup p done hp D.lt
    have k4 : S (nth c) (p &&& done) n = S (nth c1) (p &&& done) n := S_congr (fun _ _ => rfl) fun t _ ht => by
      rw [Nat.testBit_and] at ht
      simp at ht
      exact (hdone1 t ht.2).symm
    have k5 : S (nth c1) p n = S (nth c1) (p &&& done) n + l * (card p n - card (p &&& done) n) := S_fill ((Sub.refl p).and) fun t ht h1 h2 => by
      rw [Nat.testBit_and, h1] at h2
      simp at h2
      rw [a2, if_pos ((hmem t).mpr ⟨ht, hpF t h1, h2⟩)]
    have k6 := card_union_inter p done n
    rw [k5, show card p n - card (p &&& done) n = card (p ||| done) n - card done n by omega]
    omega
  obtain ⟨z1, z2, z3, z4, z5⟩ := greedy T F l L c1 c1len hsort (fun t ht => ((hmem t).mp ht).1) (fun t ht => by rw [a2, if_pos ht]) hge1
  generalize L.foldl (lower least F l) c1 = z at z1 z2 z3 z4 z5
  have zdone : ∀ t, done.testBit t = true → nth z t = nth c t := fun t ht => by
    rw [z3 t (fun q => by have := ((hmem t).mp q).2.2; rw [ht] at this; cases this), hdone1 t ht]
  have zin : ∀ t, F.testBit t = true → done.testBit t = false → nth z t = l - 1 ∨ nth z t = l := fun t h1 h2 => by
    rcases z5 t ((hmem t).mpr ⟨bit_lt hF h1, h1, h2⟩) with h | h
    · exact .inl h
    · exact .inr h.1
  have zS : ∀ p, Sub p done → S (nth z) p n = S (nth c) p n := fun p hp => S_congr (fun _ _ => rfl) fun t _ ht => zdone t (hp t ht)
  have zd : S (nth z) done n = g done := by rw [zS done (Sub.refl _), D.all]
  have both : ∀ p q, p < 2 ^ n → q < 2 ^ n → Sub p F → Sub q F → S (nth z) p n = g p → S (nth z) q n = g q → S (nth z) (p ||| q) n = g (p ||| q) := by
    intro p q hp hq hpF hqF e1 e2
    have j1 := z2 _ (Nat.or_lt_two_pow hp hq) (hpF.or hqF)
    have j2 := z2 _ (Nat.and_lt_two_pow p hq) (hpF.and)
    have j3 := G.sup p q hp hq
    have j4 := S_union_inter (nth z) p q n
    omega
  have hD : ∀ k, ∃ E, E < 2 ^ n ∧ Sub done E ∧ Sub E F ∧ S (nth z) E n = g E ∧ ∀ t, t < k → F.testBit t = true → done.testBit t = false → nth z t = l → E.testBit t = true := by
    intro k
    induction k with
    | zero => exact ⟨done, D.lt, Sub.refl _, hs, zd, fun t ht => absurd ht (Nat.not_lt_zero _)⟩
    | succ k ih =>
      obtain ⟨E, e1, e2, e3, e4, e5⟩ := ih
      by_cases q : F.testBit k = true ∧ done.testBit k = false ∧ nth z k = l
      · rcases z5 k ((hmem k).mpr ⟨bit_lt hF q.1, q.1, q.2.1⟩) with h | ⟨_, p, p1, p2, p3, p4, _⟩
        · omega
        · refine ⟨E ||| p, Nat.or_lt_two_pow e1 p1, fun t ht => by rw [Nat.testBit_or, e2 t ht]; simp, e3.or p2, both E p e1 p1 e3 p2 e4 p4, fun t ht h1 h2 h3 => ?_⟩
          rw [Nat.testBit_or]
          by_cases r : t = k
          · rw [r, p3]; simp
          · rw [e5 t (by omega) h1 h2 h3]; simp
      · refine ⟨E, e1, e2, e3, e4, fun t ht h1 h2 h3 => ?_⟩
        by_cases r : t = k
        · subst r; exact absurd ⟨h1, h2, h3⟩ q
        · exact e5 t (by omega) h1 h2 h3
  obtain ⟨E, e1, e2, e3, e4, e5⟩ := hD n
  have hall : S (nth z) F n = g F := by
    have k1 : S (nth z) F n = S (nth z) E n + (l - 1) * (card F n - card E n) := S_fill e3 fun t ht h1 h2 => by
      have hd2 : done.testBit t = false := by
        cases r : done.testBit t with
        | false => rfl
        | true => rw [e2 t r] at h2; cases h2
      rcases zin t h1 hd2 with h | h
      · exact h
      · rw [e5 t ht h1 hd2 h] at h2; cases h2
    have k2 := hm E e1 e2
    have k3 := z2 F hF (Sub.refl _)
    rw [Int.mul_sub] at k1
    omega
  refine ⟨z1, hF, z2, hall, ?_, ?_⟩
  · intro s t hsF htF hor
    by_cases ds : done.testBit s = true
    · by_cases dt : done.testBit t = true
      · rw [zdone s ds, zdone t dt] at hor
        obtain ⟨p, p1, p2, p3, p4, p5⟩ := D.fixed s t ds dt hor
        exact ⟨p, p1, p2.trans hs, by rw [zS p p2, p3], p4, p5⟩
      · exact ⟨done, D.lt, hs, zd, ds, by simpa using dt⟩
    · have ds : done.testBit s = false := by simpa using ds
      have hzs := zin s hsF ds
      by_cases dt : done.testBit t = true
      · have := hcap t dt
        rw [zdone t dt] at hor
        omega
      · have dt : done.testBit t = false := by simpa using dt
        have hzt := zin t htF dt
        rcases z5 s ((hmem s).mpr ⟨bit_lt hF hsF, hsF, ds⟩) with h | ⟨_, p, p1, p2, p3, p4, p5⟩
        · omega
        · exact ⟨p, p1, p2, p4, p3, p5 t ((hmem t).mpr ⟨bit_lt hF htF, htF, dt⟩) (by omega) (by omega)⟩
  · intro t ht W hW hsW
    have k1 := hm W hW (hs.trans hsW)
    have k2 := card_sub hsW n
    have k3 : l - 1 ≤ nth z t := by
      cases r : done.testBit t with
      | true => have := hcap t r; rw [zdone t r]; omega
      | false => have := zin t ht r; omega
    have k4 : (l - 1) * (card W n - card F n) ≤ nth z t * (card W n - card F n) := Int.mul_le_mul_of_nonneg_right k3 (by omega)
    rw [Int.mul_sub (l - 1)] at k4
    omega
theorem plan_loop (G : Super n g) (T : Tells n least g) (Z : Tells n sizes (fun p => card p n)) (M : ∀ p q, q < 2 ^ n → Sub p q → g p ≤ g q) :
    ∀ (k : Nat) (c : List Int) (done : Nat), Done n g c done → 2 ^ n ≤ k + done + 1 → Done n g (planLoop least sizes k c done) (2 ^ n - 1)
  | 0, c, done, D, h => by
    have := D.lt
    have e : done = 2 ^ n - 1 := by omega
    subst e
    exact D
  | k + 1, c, done, D, h => by
    unfold planLoop
    rw [T.1]
    by_cases q : done < 2 ^ n - 1
    · rw [if_pos q]
      obtain ⟨l1, l2⟩ := level_spec T Z M q
      obtain ⟨d1, d2, d3, d4⟩ := done_spec T Z D.lt l2
      have := d2.le
      exact plan_loop G T Z M k _ _ (done_step G T D d1 d2 l1 l2 d4) (by omega)
    · rw [if_neg q]
      have := D.lt
      have e : done = 2 ^ n - 1 := by omega
      subst e
      exact D
theorem Done.fin {c : List Int} (D : Done n g c (2 ^ n - 1)) : InB n g (nth c) ∧ Fixed n g (nth c) := by
  refine ⟨⟨fun p hp => D.ge p hp (Sub.full hp), D.all⟩, fun s t hs ht hor => ?_⟩
  obtain ⟨p, p1, p2, p3, p4, p5⟩ := D.fixed s t (by rw [full_bit]; simpa using hs) (by rw [full_bit]; simpa using ht) hor
  exact ⟨p, ⟨p1, p3⟩, p4, p5⟩
theorem planTotals_ok (G : Super n g) (T : Tells n least g) (M : ∀ p q, q < 2 ^ n → Sub p q → g p ≤ g q) :
    (planTotals n least).length = n ∧ InB n g (nth (planTotals n least)) ∧ Fixed n g (nth (planTotals n least)) := by
  have D := plan_loop G T (sizes_tells n) M (2 ^ n) _ _ (done_start G) (by omega)
  exact ⟨D.len, D.fin⟩
end
section
variable {n : Nat} {base : List Int} {loads : List Load}
theorem gT_mono (H : Good n base loads) (p q : Nat) (hq : q < 2 ^ n) (h : Sub p q) : gT n base (forced loads) p ≤ gT n base (forced loads) q := by
  have h1 := forced_mono (l := loads) (n := n) (fun x hx => ⟨(H.ld x hx).1, fun r hr => ((H.ld x hx).2.1 r hr).1⟩) (p := p) (q := q) fun t _ => h t
  have h2 : S (nth base) p n ≤ S (nth base) q n := S_sub (fun t _ => (H.bs t).1) fun t _ => h t
  unfold gT
  omega
theorem length_totals {base x : List Int} (h : base.length = x.length) : (totals base x).length = x.length := by
  simp [totals, List.length_zip, h]
theorem nth_totals {base x : List Int} {t : Nat} (h : base.length = x.length) (ht : t < x.length) : nth (totals base x) t = tot base x t := by
  have hb : t < base.length := by omega
  have e : (base.zip x)[t]? = some (base[t], x[t]) := by
    rw [List.getElem?_eq_getElem (by rw [List.length_zip]; omega), List.getElem_zip]
  simp [totals, nth, tot, ht, hb, e]
theorem plan_eq (H : Good n base loads) {least : List Int} (T : Tells n least (gT n base (forced loads))) : planTotals n least = totals base (level n base loads) := by
  obtain ⟨a1, a2, a3⟩ := planTotals_ok (gT_super H.sup) T (gT_mono H)
  obtain ⟨b1, b2, b3⟩ := level_ok H
  have hb : base.length = (level n base loads).length := by rw [H.bl, b1]
  apply ext_nth
  · rw [a1, length_totals hb, b1]
  · intro t ht
    rw [a1] at ht
    rw [nth_totals hb (by omega)]
    exact unique (gT_super H.sup) a2 b2 a3 b3 t ht
end
end Lev
end
section
set_option linter.all false
namespace Lev
open Vbemat
def addLists (a b : List Int) : List Int := (a.zip b).map fun z => z.1 + z.2
def subLists (a b : List Int) : List Int := (a.zip b).map fun z => z.1 - z.2
def forcedBy (need : Int) (rooms : List Int) : List Int :=
  (setSums rooms).map fun i => max 0 (i - (nth (setSums rooms) ((setSums rooms).length - 1) - need))
def forcedSums (k : Nat) (loads : List Load) : List Int := loads.foldl (fun f y => addLists f (forcedBy y.need y.rooms)) (setSums (List.replicate k 0))
def leastOf (base : List Int) (loads : List Load) : List Int := addLists (forcedSums base.length loads) (setSums base)
def totalsOf (base : List Int) (loads : List Load) : List Int := planTotals base.length (leastOf base loads)
def amountsOf (base : List Int) (loads : List Load) : List Int := subLists (totalsOf base loads) base
def shareAt (free : List Int) (t : Nat) (room : Int) : Int := ((List.range free.length).filter fun p => p.testBit t).foldl (fun m p => min m (nth free p)) room
def freeBehind (free : List Int) (t : Nat) (a : Int) : List Int := (List.range free.length).map fun p => nth free p - (if p.testBit t = true then a else 0)
def shareStep (st : List Int × List Int) (y : Nat × Int) : List Int × List Int := (freeBehind st.1 y.1 (shareAt st.1 y.1 y.2), st.2 ++ [shareAt st.1 y.1 y.2])
def loadStep (st : List Int × List Int) (y : Load) : List Int × List Int := ((List.range y.rooms.length).zip y.rooms).foldl shareStep (addLists st.1 (forcedBy y.need y.rooms), st.2)
def sharesOf (base : List Int) (loads : List Load) : List Int :=
  (loads.foldl loadStep (subLists (setSums (amountsOf base loads)) (forcedSums base.length loads), [])).2
theorem nth_zipWith {a b : List Int} {f : Int × Int → Int} {i : Nat} (h1 : i < a.length) (h2 : i < b.length) : nth ((a.zip b).map f) i = f (nth a i, nth b i) := by
  have e : (a.zip b)[i]? = some (a[i], b[i]) := by
    rw [List.getElem?_eq_getElem (by rw [List.length_zip]; omega), List.getElem_zip]
  simp [nth, h1, h2, e]
theorem Tells.add {n : Nat} {a b : List Int} {f g : Nat → Int} (A : Tells n a f) (B : Tells n b g) : Tells n (addLists a b) (fun p => f p + g p) := by
  refine ⟨by simp [addLists, List.length_zip, A.1, B.1], fun p hp => ?_⟩
  unfold addLists
  rw [nth_zipWith (by rw [A.1]; exact hp) (by rw [B.1]; exact hp), A.2 p hp, B.2 p hp]
theorem Tells.sub {n : Nat} {a b : List Int} {f g : Nat → Int} (A : Tells n a f) (B : Tells n b g) : Tells n (subLists a b) (fun p => f p - g p) := by
  refine ⟨by simp [subLists, List.length_zip, A.1, B.1], fun p hp => ?_⟩
  unfold subLists
  rw [nth_zipWith (by rw [A.1]; exact hp) (by rw [B.1]; exact hp), A.2 p hp, B.2 p hp]
theorem Tells.congr {n : Nat} {a : List Int} {f g : Nat → Int} (A : Tells n a f) (h : ∀ p, p < 2 ^ n → f p = g p) : Tells n a g := ⟨A.1, fun p hp => by rw [A.2 p hp, h p hp]⟩
theorem forcedBy_tells {n : Nat} (x : Load) (h : x.rooms.length = n) : Tells n (forcedBy x.need x.rooms) (forcedOf x) := by
  have U := setSums_tells h
  refine ⟨by simp [forcedBy, U.1], fun p hp => ?_⟩
  unfold forcedBy
  rw [nth_map _ (by rw [U.1]; exact hp), U.1, U.2 p hp, U.2 _ (full_lt n), forcedOf_eq h]
  have := sum_eq_S x.rooms
  rw [h] at this
  simp only
  omega
theorem forced_fold {n : Nat} : ∀ (l : List Load) (f : List Int) (g : Nat → Int), (∀ x ∈ l, x.rooms.length = n) → Tells n f g → Tells n (l.foldl (fun f y => addLists f (forcedBy y.need y.rooms)) f) (fun p => g p + forced l p)
  | [], f, g, _, T => T.congr fun p _ => by simp [forced]
  | x :: l, f, g, h, T => by
    rw [List.foldl_cons]
    have T' := forced_fold l (addLists f (forcedBy x.need x.rooms)) _ (fun y hy => h y (List.mem_cons_of_mem _ hy)) (T.add (forcedBy_tells x (h x List.mem_cons_self)))
    exact T'.congr fun p _ => by rw [forced_cons]; omega
theorem forcedSums_tells {n : Nat} (l : List Load) (h : ∀ x ∈ l, x.rooms.length = n) : Tells n (forcedSums n l) (forced l) := by
  have Z := setSums_tells (l := List.replicate n 0) (n := n) (by simp)
  have T := forced_fold l _ _ h Z
  refine T.congr fun p _ => ?_
  have e : S (nth (List.replicate n 0)) p n = S (fun _ => 0) p n := S_congr (fun _ _ => rfl) fun t ht _ => nth_replicate 0 ht
  simp only [e, S_const]
  omega
theorem leastOf_tells {n : Nat} {base : List Int} {loads : List Load} (H : Good n base loads) : Tells n (leastOf base loads) (gT n base (forced loads)) := by
  have A := forcedSums_tells (n := n) loads fun x hx => (H.ld x hx).1
  have B := setSums_tells H.bl
  unfold leastOf
  rw [H.bl]
  exact A.add B
theorem totalsOf_eq {n : Nat} {base : List Int} {loads : List Load} (H : Good n base loads) : totalsOf base loads = totals base (level n base loads) := by
  unfold totalsOf
  rw [H.bl]
  exact plan_eq H (leastOf_tells H)
theorem amountsOf_eq {n : Nat} {base : List Int} {loads : List Load} (H : Good n base loads) : amountsOf base loads = level n base loads := by
  have hl := (level_ok H).1
  have hb : base.length = (level n base loads).length := by rw [H.bl, hl]
  unfold amountsOf
  rw [totalsOf_eq H]
  apply ext_nth
  · simp [subLists, List.length_zip, length_totals hb, hb]
  · intro t ht
    have ht : t < (level n base loads).length := by simpa [subLists, List.length_zip, length_totals hb, hb] using ht
    unfold subLists
    rw [nth_zipWith (by rw [length_totals hb]; exact ht) (by rw [hb]; exact ht), nth_totals hb ht]
    unfold tot
    simp only
    omega
theorem fold_min {α : Type} (r : α → Int) : ∀ (l : List α) (m : Int),
    l.foldl (fun m w => min m (r w)) m ≤ m ∧ (∀ w ∈ l, l.foldl (fun m w => min m (r w)) m ≤ r w) ∧
    (l.foldl (fun m w => min m (r w)) m = m ∨ ∃ w ∈ l, l.foldl (fun m w => min m (r w)) m = r w)
  | [], m => ⟨Int.le_refl _, fun _ h => absurd h List.not_mem_nil, .inl rfl⟩
  | a :: l, m => by
    obtain ⟨i1, i2, i3⟩ := fold_min r l (min m (r a))
    rw [List.foldl_cons]
    refine ⟨by omega, fun w hw => ?_, ?_⟩
    · rcases List.mem_cons.mp hw with rfl | hw
      · omega
      · exact i2 w hw
    · rcases i3 with i3 | ⟨w, hw, e⟩
      · by_cases q : r a ≤ m
        · exact .inr ⟨a, List.mem_cons_self, by omega⟩
        · left; omega
      · exact .inr ⟨w, List.mem_cons_of_mem _ hw, e⟩
theorem zip_same {c : Nat} (g : Load → Load) : ∀ (l : List Load) (k : Nat), c < k → ((List.range' k l.length).zip l).map (fun z => if z.1 = c then g z.2 else z.2) = l
  | [], _, _ => by simp
  | x :: l, k, h => by
    rw [List.length_cons, List.range'_succ, List.zip_cons_cons, List.map_cons, zip_same g l (k + 1) (by omega), if_neg (by simp; omega)]
theorem zip_at (g : Load → Load) (y : Load) (post : List Load) (c : Nat) : ∀ (pre : List Load) (k : Nat), c = k + pre.length → ((List.range' k (pre ++ y :: post).length).zip (pre ++ y :: post)).map (fun z => if z.1 = c then g z.2 else z.2) = pre ++ g y :: post
  | [], k, h => by
    simp only [List.length_nil, Nat.add_zero] at h
    subst h
    simp only [List.nil_append, List.length_cons]
    rw [List.range'_succ, List.zip_cons_cons, List.map_cons, zip_same g post (c + 1) (by omega), if_pos rfl]
  | x :: pre, k, h => by
    rw [List.length_cons] at h
    have ih := zip_at g y post c pre (k + 1) (by omega)
    simp only [List.cons_append, List.length_cons]
    rw [List.range'_succ, List.zip_cons_cons, List.map_cons, if_neg (by simp; omega), ih]
structure Sh (n : Nat) (y : Load) (post : List Load) (x : List Int) : Prop where
  xl : x.length = n
  rl : y.rooms.length = n
  r0 : ∀ t, 0 ≤ nth y.rooms t
  n0 : 0 ≤ y.need
  ge : ∀ p, p < 2 ^ n → forced post p + forcedOf y p ≤ S (nth x) p n
  all : S (nth x) (2 ^ n - 1) n = y.need + forced post (2 ^ n - 1)
theorem share_one {n : Nat} {y : Load} {pre post : List Load} {x free : List Int} {t : Nat} (I : Sh n y post x) (P : Super n (forced post)) (hpre : ∀ p, forced pre p = 0)
    (T : Tells n free (fun p => S (nth x) p n - forced post p)) (ht : t < n) :
    mostAt n (pre ++ y :: post) x pre.length t = shareAt free t (nth y.rooms t) ∧
    Sh n ⟨y.need - shareAt free t (nth y.rooms t), setAt 0 t y.rooms⟩ post (setAt (nth x t - shareAt free t (nth y.rooms t)) t x) ∧
    Tells n (freeBehind free t (shareAt free t (nth y.rooms t))) (fun p => S (nth (setAt (nth x t - shareAt free t (nth y.rooms t)) t x)) p n - forced post p) := by
  have hF := full_lt n
  have hFt : (2 ^ n - 1).testBit t = true := by rw [full_bit]; simpa using ht
  have h := fold_min (fun p => nth free p) ((List.range free.length).filter fun p => p.testBit t) (nth y.rooms t)
  have ea : ((List.range free.length).filter fun p => p.testBit t).foldl (fun m p => min m (nth free p)) (nth y.rooms t) = shareAt free t (nth y.rooms t) := rfl
  rw [ea] at h
  obtain ⟨s1, s2, s3⟩ := h
  have s2 : ∀ p, p < 2 ^ n → p.testBit t = true → shareAt free t (nth y.rooms t) ≤ S (nth x) p n - forced post p := fun p hp hb => by
    have := s2 p (List.mem_filter.mpr ⟨List.mem_range.mpr (by rw [T.1]; exact hp), hb⟩)
    rwa [T.2 p hp] at this
  have s3 : shareAt free t (nth y.rooms t) = nth y.rooms t ∨ ∃ p, p < 2 ^ n ∧ p.testBit t = true ∧ shareAt free t (nth y.rooms t) = S (nth x) p n - forced post p := by
    rcases s3 with s3 | ⟨p, hp, e⟩
    · exact .inl s3
    · obtain ⟨h1, h2⟩ := List.mem_filter.mp hp
      have h1 := List.mem_range.mp h1
      rw [T.1] at h1
      exact .inr ⟨p, h1, h2, by rw [e, T.2 p h1]⟩
  have m := fold_min (fun p => over x p - (forced (pre ++ y :: post) p - forcedOf y p)) ((sets n).filter fun p => has p t) (min y.need (nth y.rooms t))
  have em : mostAt n (pre ++ y :: post) x pre.length t = ((sets n).filter fun p => has p t).foldl (fun b p => min b (over x p - (forced (pre ++ y :: post) p - forcedOf y p))) (min y.need (nth y.rooms t)) := by
    unfold mostAt
    rw [List.getElem?_append_right (Nat.le_refl _), Nat.sub_self]
    rfl
  rw [← em] at m
  have hfo : ∀ p, over x p - (forced (pre ++ y :: post) p - forcedOf y p) = S (nth x) p n - forced post p := fun p => by
    have e : forced (pre ++ y :: post) p = forced pre p + forced (y :: post) p := by simp [forced]
    rw [e, hpre, forced_cons, over_eq, I.xl]
    omega
  obtain ⟨m1, m2, m3⟩ := m
  have m2 : ∀ p, p < 2 ^ n → p.testBit t = true → mostAt n (pre ++ y :: post) x pre.length t ≤ S (nth x) p n - forced post p := fun p hp hb => by
    have := m2 p (List.mem_filter.mpr ⟨List.mem_range.mpr hp, by rw [has_eq]; exact hb⟩)
    rwa [hfo] at this
  have hneed : S (nth x) (2 ^ n - 1) n - forced post (2 ^ n - 1) = y.need := by have := I.all; omega
  have k1 : shareAt free t (nth y.rooms t) ≤ y.need := by have := s2 _ hF hFt; omega
  have eq : mostAt n (pre ++ y :: post) x pre.length t = shareAt free t (nth y.rooms t) := by
    apply Int.le_antisymm
    · rcases s3 with s3 | ⟨p, h1, h2, e⟩
      · omega
      · rw [e]; exact m2 p h1 h2
    · rcases m3 with m3 | ⟨p, hp, e⟩
      · omega
      · obtain ⟨h1, h2⟩ := List.mem_filter.mp hp
        have h1 := List.mem_range.mp h1
        rw [has_eq] at h2
        rw [e, hfo]
        exact s2 p h1 h2
  refine ⟨eq, ?_, ?_⟩
  · generalize shareAt free t (nth y.rooms t) = a at s1 s2 s3 k1
    have hx' : nth (setAt (nth x t - a) t x) = upd (nth x) t (nth x t - a) := nth_fun_set (by rw [I.xl]; exact ht)
    have hr' : nth (setAt 0 t y.rooms) = upd (nth y.rooms) t 0 := nth_fun_set (by rw [I.rl]; exact ht)
    have hrl : (setAt 0 t y.rooms).length = n := by rw [length_setAt]; exact I.rl
    have hsum : (setAt 0 t y.rooms).sum = y.rooms.sum - nth y.rooms t := by
      rw [sum_eq_S, sum_eq_S, hrl, I.rl, hr', S_upd, if_pos ⟨ht, hFt⟩]
      omega
    refine ⟨by rw [length_setAt]; exact I.xl, hrl, fun u => ?_, by simp only; omega, fun p hp => ?_, ?_⟩
    · simp only [hr']
      unfold upd
      split
      · omega
      · exact I.r0 u
    · have g0 := I.ge p hp
      rw [forcedOf_eq (x := ⟨y.need - a, setAt 0 t y.rooms⟩) hrl]
      rw [forcedOf_eq I.rl] at g0
      simp only [hsum, hx', hr', S_upd]
      cases hb : p.testBit t with
      | true =>
        have := s2 p hp hb
        simp [ht]
        omega
      | false =>
        simp only [Bool.false_eq_true, and_false, if_false, Int.add_zero]
        have hle : S (nth y.rooms) p n ≤ y.rooms.sum - nth y.rooms t := by
          have q : S (nth y.rooms) p n ≤ S (upd (nth y.rooms) t 0) (2 ^ n - 1) n := by
            have e : S (nth y.rooms) p n = S (upd (nth y.rooms) t 0) p n := by rw [S_upd, hb]; simp
            rw [e]
            exact S_sub (fun u _ => by unfold upd; split; omega; exact I.r0 u) fun u _ => Sub.full hp u
          rw [← hr'] at q
          have := sum_eq_S (setAt 0 t y.rooms)
          rw [hrl] at this
          omega
        rcases s3 with s3 | ⟨q, h1, h2, e⟩
        · omega
        · have j1 := P.sup p q hp h1
          have j2 := S_union_inter (nth x) p q n
          have l1 : p ||| q < 2 ^ n := Nat.or_lt_two_pow hp h1
          have l2 : p &&& q < 2 ^ n := Nat.and_lt_two_pow p h1
          have j3 := I.ge _ l1
          have j4 := I.ge _ l2
          rw [forcedOf_eq I.rl] at j3
          have j5 := forcedOf_nonneg (x := y) (p &&& q)
          have j6 : S (nth y.rooms) p n + nth y.rooms t ≤ S (nth y.rooms) (p ||| q) n := by
            have q1 : S (upd (nth y.rooms) t 0) p n ≤ S (upd (nth y.rooms) t 0) (p ||| q) n := S_sub (fun u _ => by unfold upd; split; omega; exact I.r0 u) fun u _ hu => by rw [Nat.testBit_or, hu]; rfl
            rw [S_upd, S_upd, hb, Nat.testBit_or, h2] at q1
            simp [ht] at q1
            omega
          omega
    · simp only [hx', S_upd, if_pos (And.intro ht hFt)]
      have := I.all
      omega
  · refine ⟨by simp [freeBehind, T.1], fun p hp => ?_⟩
    have hx' : nth (setAt (nth x t - shareAt free t (nth y.rooms t)) t x) = upd (nth x) t (nth x t - shareAt free t (nth y.rooms t)) := nth_fun_set (by rw [I.xl]; exact ht)
    have e : nth (freeBehind free t (shareAt free t (nth y.rooms t))) p = nth free p - (if p.testBit t = true then shareAt free t (nth y.rooms t) else 0) := by
      have : p < free.length := by rw [T.1]; exact hp
      simp [freeBehind, nth, this]
    simp only [e, T.2 p hp, hx', S_upd]
    cases hb : p.testBit t with
    | true => simp [ht]; omega
    | false => simp
theorem sharesFrom_cons (n c t : Nat) (r : List (Nat × Nat)) (l : List Load) (x : List Int) : sharesFrom n ((c, t) :: r) l x =
    mostAt n l x c t :: sharesFrom n r (((List.range l.length).zip l).map fun y => if y.1 = c then { y.2 with need := y.2.need - mostAt n l x c t, rooms := setAt 0 t y.2.rooms } else y.2) (setAt (nth x t - mostAt n l x c t) t x) := rfl
theorem share_load {n : Nat} {pre post : List Load} (P : Super n (forced post)) (hpre : ∀ p, forced pre p = 0) (R : List (Nat × Nat)) (rooms : List Int) (hrl : rooms.length = n) :
    ∀ (k t : Nat) (y : Load) (x free out : List Int), t + k = n → Sh n y post x → Tells n free (fun p => S (nth x) p n - forced post p) →
      (∀ u, u < t → nth y.rooms u = 0) → (∀ u, t ≤ u → nth y.rooms u = nth rooms u) →
      ∃ (y' : Load) (x' free' mid : List Int), ((List.range' t k).zip (rooms.drop t)).foldl shareStep (free, out) = (free', out ++ mid) ∧
        sharesFrom n ((List.range' t k).map (fun t => (pre.length, t)) ++ R) (pre ++ y :: post) x = mid ++ sharesFrom n R (pre ++ y' :: post) x' ∧
        Sh n y' post x' ∧ Tells n free' (fun p => S (nth x') p n - forced post p) ∧ ∀ u, nth y'.rooms u = 0
  | 0, t, y, x, free, out, hk, I, T, h0, h1 => by
    refine ⟨y, x, free, [], by simp, by simp, I, T, fun u => ?_⟩
    by_cases e : u < t
    · exact h0 u e
    · simp [nth, List.getElem?_eq_none (show y.rooms.length ≤ u by rw [I.rl]; omega)]
  | k + 1, t, y, x, free, out, hk, I, T, h0, h1 => by
    have ht : t < n := by omega
    obtain ⟨a1, a2, a3⟩ := share_one I P hpre T ht
    have hroom := h1 t (Nat.le_refl _)
    have hrt : setAt 0 t y.rooms = setAt 0 t y.rooms := rfl
    obtain ⟨y', x', free', mid, b1, b2, b3, b4, b5⟩ := share_load P hpre R rooms hrl k (t + 1) _ _ _ (out ++ [shareAt free t (nth y.rooms t)]) (by omega) a2 a3
      (fun u hu => by
        simp only
        rw [nth_setAt _ _ _ _ (by rw [I.rl]; exact ht)]
        by_cases e : u = t
        · rw [if_pos e]
        · rw [if_neg e]; exact h0 u (by omega))
      (fun u hu => by
        simp only
        rw [nth_setAt _ _ _ _ (by rw [I.rl]; exact ht), if_neg (by omega)]
        exact h1 u (by omega))
    refine ⟨y', x', free', shareAt free t (nth y.rooms t) :: mid, ?_, ?_, b3, b4, b5⟩
    · have e : rooms.drop t = nth rooms t :: rooms.drop (t + 1) := by
        rw [List.drop_eq_getElem_cons (by rw [hrl]; exact ht)]
        congr 1
        simp [nth, hrl, ht]
      rw [e, List.range'_succ, List.zip_cons_cons, List.foldl_cons]
      have es : shareStep (free, out) (t, nth rooms t) = (freeBehind free t (shareAt free t (nth y.rooms t)), out ++ [shareAt free t (nth y.rooms t)]) := by
        simp only [shareStep, hroom]
      rw [es, b1, List.append_assoc]
      rfl
    · rw [List.range'_succ, List.map_cons, List.cons_append]
      have e := zip_at (fun z => { z with need := z.need - shareAt free t (nth y.rooms t), rooms := setAt 0 t z.rooms }) y post pre.length pre 0 (Nat.zero_add _).symm
      rw [← List.range_eq_range'] at e
      rw [sharesFrom_cons, a1, e, b2]
      rfl
theorem share_all {n : Nat} : ∀ (rest pre : List Load) (x free out : List Int), (∀ p, forced pre p = 0) →
    (∀ y ∈ rest, y.rooms.length = n ∧ (∀ r ∈ y.rooms, 0 ≤ r) ∧ 0 ≤ y.need ∧ y.need ≤ y.rooms.sum) → x.length = n → (∀ p, p < 2 ^ n → forced rest p ≤ S (nth x) p n) → S (nth x) (2 ^ n - 1) n = forced rest (2 ^ n - 1) →
    Tells n free (fun p => S (nth x) p n - forced rest p) →
    (rest.foldl loadStep (free, out)).2 = out ++ sharesFrom n ((List.range' pre.length rest.length).flatMap fun c => (List.range n).map fun t => (c, t)) (pre ++ rest) x
  | [], pre, x, free, out, _, _, _, _, _, _ => by simp [sharesFrom]
  | y :: post, pre, x, free, out, hpre, hl, hx, hge, hall, T => by
    obtain ⟨c1, c2, c3, c4⟩ := hl y List.mem_cons_self
    have hpost := fun z hz => hl z (List.mem_cons_of_mem _ hz)
    have P : Super n (forced post) := forced_super fun z hz => ⟨(hpost z hz).1, (hpost z hz).2.1, (hpost z hz).2.2.2⟩
    have I : Sh n y post x := by
      refine ⟨hx, c1, nth_nonneg c2, c3, fun p hp => ?_, ?_⟩
      · have := hge p hp; rw [forced_cons] at this; omega
      · rw [hall, forced_cons, forcedOf_full c1 c3]
    have T1 : Tells n (addLists free (forcedBy y.need y.rooms)) (fun p => S (nth x) p n - forced post p) := (T.add (forcedBy_tells y c1)).congr fun p _ => by rw [forced_cons]; omega
    obtain ⟨y', x', free', mid, b1, b2, b3, b4, b5⟩ := share_load P hpre ((List.range' (pre.length + 1) post.length).flatMap fun c => (List.range n).map fun t => (c, t)) y.rooms c1 n 0 y x _ out (by omega) I T1 (fun u hu => absurd hu (Nat.not_lt_zero _)) (fun _ _ => rfl)
    have hsum : y'.rooms.sum = 0 := by
      rw [sum_eq_S, b3.rl]
      have : S (nth y'.rooms) (2 ^ n - 1) n = S (fun _ => 0) (2 ^ n - 1) n := S_congr (fun _ _ => rfl) fun t _ _ => b5 t
      rw [this, S_const, Int.zero_mul]
    have hfo : ∀ p, forcedOf y' p = max 0 y'.need := fun p => by
      rw [forcedOf_eq b3.rl, hsum]
      have : S (nth y'.rooms) p n = S (fun _ => 0) p n := S_congr (fun _ _ => rfl) fun t _ _ => b5 t
      rw [this, S_const, Int.zero_mul]
      omega
    have hneed : y'.need = 0 := by
      have h1 := b3.ge 0 (Nat.two_pow_pos n)
      rw [P.zero, S_zero_set, hfo] at h1
      have := b3.n0
      omega
    have hz : ∀ p, forcedOf y' p = 0 := fun p => by rw [hfo, hneed]; rfl
    have ih := share_all post (pre ++ [y']) x' free' (out ++ mid) (fun p => by
        have : forced (pre ++ [y']) p = forced pre p + forcedOf y' p := by simp [forced]
        rw [this, hpre, hz]; rfl) hpost b3.xl (fun p hp => by have := b3.ge p hp; rw [hz] at this; omega) (by have := b3.all; rw [hneed] at this; omega) b4
    rw [List.foldl_cons]
    have e1 : loadStep (free, out) y = (free', out ++ mid) := by
      unfold loadStep
      simp only
      rw [List.range_eq_range', c1]
      exact b1
    rw [e1, ih, List.length_append, List.length_cons, List.length_nil, Nat.zero_add, List.append_assoc, List.length_cons, List.range'_succ, List.flatMap_cons, List.append_assoc]
    congr 1
    rw [List.range_eq_range', ← List.range_eq_range', List.range_eq_range' (n := n)]
    rw [← List.range_eq_range'] at b2 ⊢
    exact b2.symm
theorem sharesOf_eq {n : Nat} {base : List Int} {loads : List Load} (H : Good n base loads) : sharesOf base loads = shares n loads (level n base loads) := by
  have hl := level_ok H
  have B := InB_tot.mp hl.2.1
  unfold sharesOf
  rw [amountsOf_eq H, H.bl]
  have U := (setSums_tells hl.1).sub (forcedSums_tells (n := n) loads fun x hx => (H.ld x hx).1)
  have := share_all loads [] (level n base loads) _ [] (fun p => rfl) (fun y hy => ⟨(H.ld y hy).1, fun r hr => ((H.ld y hy).2.1 r hr).1, (H.ld y hy).2.2.1.1, (H.ld y hy).2.2.2⟩) hl.1 B.ge B.all U
  rw [this, List.nil_append]
  unfold shares
  rw [List.range_eq_range' (n := loads.length)]
  rfl
end Lev
end
section
set_option linter.all false
namespace Lev
open Vbemat
theorem foldl_max_le : ∀ (l : List Int) (m M : Int), l.foldl max m ≤ M ↔ m ≤ M ∧ ∀ x ∈ l, x ≤ M
  | [], m, M => by simp
  | a :: l, m, M => by
    rw [List.foldl_cons, foldl_max_le l (max m a) M]
    constructor
    · rintro ⟨h1, h2⟩
      refine ⟨by omega, fun x hx => ?_⟩
      rcases List.mem_cons.mp hx with rfl | hx
      · omega
      · exact h2 x hx
    · rintro ⟨h1, h2⟩
      have := h2 a List.mem_cons_self
      exact ⟨by omega, fun x hx => h2 x (List.mem_cons_of_mem _ hx)⟩
theorem greatest_le (l : List Int) (M : Int) : greatest l ≤ M ↔ 0 ≤ M ∧ ∀ x ∈ l, x ≤ M := foldl_max_le l 0 M
theorem greatest_nonneg (l : List Int) : 0 ≤ greatest l := ((greatest_le l (greatest l)).mp (Int.le_refl _)).1
theorem le_greatest {l : List Int} {x : Int} (h : x ∈ l) : x ≤ greatest l := ((greatest_le l (greatest l)).mp (Int.le_refl _)).2 x h
theorem mem_iff_nth {l : List Int} {x : Int} : x ∈ l ↔ ∃ t, t < l.length ∧ nth l t = x := by
  constructor
  · intro h
    obtain ⟨i, hi, e⟩ := List.getElem_of_mem h
    exact ⟨i, hi, by simp [nth, hi, e]⟩
  · rintro ⟨t, ht, rfl⟩
    exact nth_mem ht
section
variable {n : Nat} {base : List Int} {loads : List Load}
theorem planned_len (H : Good n base loads) : base.length = (level n base loads).length ∧ (totals base (level n base loads)).length = n := by
  have h := (level_ok H).1
  have hb : base.length = (level n base loads).length := by rw [H.bl, h]
  exact ⟨hb, by rw [length_totals hb, h]⟩
theorem planned_nth (H : Good n base loads) {t : Nat} (ht : t < n) : nth (totals base (level n base loads)) t = tot base (level n base loads) t := by
  have h := (level_ok H).1
  exact nth_totals (planned_len H).1 (by rw [h]; exact ht)
theorem peak_le_iff (H : Good n base loads) {M : Int} (hM : 0 ≤ M) : greatest (totals base (level n base loads)) ≤ M ↔ ∀ p, p < 2 ^ n → gT n base (forced loads) p ≤ M * card p n := by
  obtain ⟨h1, h2, h3⟩ := level_ok H
  have hl := planned_len H
  rw [greatest_le]
  constructor
  · rintro ⟨_, h⟩ p hp
    have k1 := h2.ge p hp
    have k2 : S (tot base (level n base loads)) p n ≤ S (fun _ => M) p n := S_le fun t ht _ => by
      rw [← planned_nth H ht]
      exact h _ (nth_mem (by rw [hl.2]; exact ht))
    rw [S_const] at k2
    omega
  · intro h
    refine ⟨hM, fun x hx => ?_⟩
    obtain ⟨t, ht, rfl⟩ := mem_iff_nth.mp hx
    rw [hl.2] at ht
    rw [planned_nth H ht]
    apply Classical.byContradiction
    intro q
    obtain ⟨D, d1, d2, d3⟩ := cut (gT_super H.sup) h2 (fun s t hs ht hlt => h3 s t hs ht (.inl hlt)) M
    have k1 : S (fun _ => M) D n < S (tot base (level n base loads)) D n := S_lt (fun u hu hb => by
      apply Classical.byContradiction
      intro r
      have := d3 u hu (by omega)
      rw [hb] at this
      cases this) ht (d2 t ht (by omega)) (by omega)
    rw [S_const] at k1
    have k2 := h D d1.1
    have k3 := d1.2
    omega
theorem halve_spec (ok : Int → Bool) (mono : ∀ a b, a ≤ b → ok b = true → ok a = true) : ∀ (k : Nat) (lo hi : Int), lo ≤ hi → hi - lo < 2 ^ k → ok lo = true →
    lo ≤ halve ok k lo hi ∧ halve ok k lo hi ≤ hi ∧ ok (halve ok k lo hi) = true ∧ ∀ a, halve ok k lo hi < a → a ≤ hi → ok a = false
  | 0, lo, hi, h1, h2, h3 => by
    have : hi = lo := by simp at h2; omega
    subst this
    exact ⟨Int.le_refl _, Int.le_refl _, h3, fun a h4 h5 => absurd h4 (by simp only [halve]; omega)⟩
  | k + 1, lo, hi, h1, h2, h3 => by
    unfold halve
    rw [Int.pow_succ] at h2
    by_cases q : lo < hi
    · rw [if_pos q]
      simp only
      by_cases e : ok ((lo + hi + 1) / 2) = true
      · rw [if_pos e]
        obtain ⟨i1, i2, i3, i4⟩ := halve_spec ok mono k ((lo + hi + 1) / 2) hi (by omega) (by omega) e
        exact ⟨by omega, i2, i3, i4⟩
      · rw [if_neg e]
        obtain ⟨i1, i2, i3, i4⟩ := halve_spec ok mono k lo ((lo + hi + 1) / 2 - 1) (by omega) (by omega) h3
        refine ⟨i1, by omega, i3, fun a h4 h5 => ?_⟩
        by_cases r : a ≤ (lo + hi + 1) / 2 - 1
        · exact i4 a h4 r
        · cases e2 : ok a with
          | false => rfl
          | true => exact absurd (mono ((lo + hi + 1) / 2) a (by omega) e2) e
    · rw [if_neg q]
      have : hi = lo := by omega
      subst this
      exact ⟨Int.le_refl _, Int.le_refl _, h3, fun a h4 h5 => by omega⟩
end
end Lev
end
section
set_option Elab.async false
set_option maxRecDepth 100000
set_option maxHeartbeats 2000000
namespace Hs
open PySem PySem.Spec
open PyProof.Rows hiding St
open L2
abbrev LI (H : Hp) (p : Addr) (xs : List Int) : Prop := H p = some (.lst (xs.map V.int))
theorem Sm.add {H H' : Hp} {l : Addr} {o : HO} (e : Same H H') (h : H' l = none) : Same H (upd H' l o) := fun b u q => by
  rw [upd_ne (ne_of_none (e b u q) h)]; exact e b u q
theorem Sm.over {H H' : Hp} {l : Addr} {o : HO} (e : Same H H') (h : H l = none) : Same H (upd H' l o) := fun b u q => by
  rw [upd_ne (ne_of_none q h)]; exact e b u q
theorem Sm.one {H : Hp} {l : Addr} {o : HO} (h : H l = none) : Same H (upd H l o) := Sm.add (Same.refl H) h
structure Cal (P : Program) (w : World) (K : PySem.W.Frag) (mg : Str → Option Value) (base : Heap) (k : Nat) (x : Str) (ps : List Str) (sp : Sp) : Prop where
  ex : ∃ (f : Addr) (fd : FuncData), mg x = some (.ref f) ∧ PySem.W.keepIn K (.ref f) = true ∧ Binds K fd ps [] ∧ FnOk P w K mg base CX0 k f fd ps sp
theorem pcall {X : Cx} {k : Nat} {x : Str} {ps : List Str} {sp : Sp} {p pos : Pos} {e : Expr} {es : List Expr} {t : TA} (C : Cal X.prog X.w X.K X.mg X.base k x ps sp) (hr : Room k X.A) (hg : Gl X x) (ha : PA X (e :: es) t)
    (hdb : (x == ("__debug__" : Str)) = false := by decide) (he : starEach (e :: es) X.env = (false, eval e X.env) :: starEach es X.env := by rfl) (hpl : (backTo pos (starEach es X.env)).any (·.1) = false := by rfl) :
    PE X (.Call (.Name x p) (e :: es) [] pos) (tCall sp [] E0 t) := by
  obtain ⟨f, fd, h1, h2, h3, h4⟩ := C.ex
  exact pe_call h4 hr hg h1 h2 h3 .nil pass0 ha hdb he hpl
structure Wk (J : It) (S : Hp → Prop) (n : Nat) (R : Nat → V → Hp → Prop) : Prop where
  go : ∀ i H, S H → i < n → J.go i H
  stop : ∀ H, S H → J.stop n H
  yld : ∀ i H x H', S H → i < n → J.yld i H x H' → Same H H' ∧ R i x H'
theorem forW {J : It} {S : Hp → Prop} {n : Nat} {R : Nat → V → Hp → Prop} {g : TG} {tb : TS} {D : Ends} {σ : St} {H : Hp} (wk : Wk J S n R) (Pv : Nat → St → Hp → Prop) (h0 : Pv 0 σ H) (hS : ∀ i σ H, i ≤ n → Pv i σ H → S H)
    (hs : ∀ i x σ H H', i < n → Pv i σ H → Same H H' → R i x H' → g x σ H' fun σ2 H2 => tb { D with nx := Pv (i + 1), ct := Pv (i + 1), bk := D.nx } σ2 H2) (hd : ∀ σ H, Pv n σ H → D.nx σ H) :
    ∃ W : Nat → Nat → St → Hp → Prop, (∃ m, W 0 m σ H) ∧ ∀ i m σ H, W i m σ H →
      (J.stop i H ∧ D.nx σ H) ∨ (J.go i H ∧ ∃ N : St → Hp → Prop, (∀ σ' H', N σ' H' → ∃ m', m' < m ∧ W (i + 1) m' σ' H') ∧ ∀ x H', J.yld i H x H' → g x σ H' fun σ2 H2 => tb { D with nx := N, ct := N, bk := D.nx } σ2 H2) := by
  refine ⟨fun i m σ H => m = n - i ∧ i ≤ n ∧ Pv i σ H, ⟨n, by simp, Nat.zero_le _, h0⟩, ?_⟩
  rintro i m σ H ⟨rfl, hi, p⟩
  have q := hS i σ H hi p
  by_cases hlt : i < n
  · refine .inr ⟨wk.go i H q hlt, Pv (i + 1), fun σ' H' p' => ⟨n - (i + 1), by omega, rfl, hlt, p'⟩, fun x H' y => ?_⟩
    obtain ⟨s, r⟩ := wk.yld i H x H' q hlt y
    exact hs i x σ H H' hlt p s r
  · have e : i = n := by omega
    subst e
    exact .inl ⟨wk.stop H q, hd σ H p⟩
theorem range_snoc {α : Type} (f : Nat → Option α) (i : Nat) : (List.range (i + 1)).filterMap f = (List.range i).filterMap f ++ (match f i with | some y => [y] | none => []) := by
  rw [List.range_succ, List.filterMap_append]
  cases e : f i <;> simp [e]
theorem lcW {J : It} {S : Hp → Prop} {n : Nat} {R : Nat → V → Hp → Prop} {g : TG} {tt : TT} {te : TE} {vs : List Nat} {σ : St} {H1 : Hp} {D : Addr} {Qd : Hp → Prop} (hD : H1 D = none) (wk : Wk J S n R) (hn : n ≤ sizeLine) (hS : ∀ H', Same H1 H' → S H') (f : Nat → Option V)
    (step : ∀ i x H' (Q' : V → Hp → Prop) (N : Hp → Prop), i < n → Same H1 H' → R i x H' → (∀ y H4, f i = some y → Same H' H4 → Q' y H4) → (∀ H3, f i = none → Same H' H3 → N H3) →
      g x (wipe σ vs) H' fun σ2 H2 => wipe σ2 vs = wipe σ vs ∧ tt σ2 H2 fun b H3 => if b = true then te σ2 H3 Q' else N H3)
    (fin : ∀ H', Same H1 H' → H' D = some (.lst ((List.range n).filterMap f)) → Qd H') :
    ∃ W : Nat → Nat → Hp → Prop, (∃ m, W 0 m (upd H1 D (.lst []))) ∧ ∀ i m H, W i m H →
      (J.stop i H ∧ Qd H) ∨ (J.go i H ∧ ∃ Nx : Hp → Prop, (∀ H', Nx H' → ∃ m', m' < m ∧ W (i + 1) m' H') ∧ ∀ x H', J.yld i H x H' → g x (wipe σ vs) H' fun σ2 H2 => wipe σ2 vs = wipe σ vs ∧ tt σ2 H2 fun b H3 =>
        if b = true then te σ2 H3 fun y H4 => ∃ acc, H4 D = some (.lst acc) ∧ acc.length < sizeLine ∧ Nx (upd H4 D (.lst (acc ++ [y]))) else Nx H3) := by
  refine ⟨fun i m H => m = n - i ∧ i ≤ n ∧ Same H1 H ∧ H D = some (.lst ((List.range i).filterMap f)), ⟨n, by simp, Nat.zero_le _, Sm.one hD, upd_same⟩, ?_⟩
  rintro i m H ⟨rfl, hi, s, hL⟩
  by_cases hlt : i < n
  · refine .inr ⟨wk.go i H (hS H s) hlt, fun H' => i + 1 ≤ n ∧ Same H1 H' ∧ H' D = some (.lst ((List.range (i + 1)).filterMap f)), fun H' ⟨a, b, c⟩ => ⟨n - (i + 1), by omega, rfl, a, b, c⟩, fun x H' y => ?_⟩
    obtain ⟨s2, r⟩ := wk.yld i H x H' (hS H s) hlt y
    have s3 : Same H1 H' := s.trans s2
    have hL2 := s2 _ _ hL
    refine step i x H' _ _ hlt s3 r (fun y H4 e s4 => ?_) fun H3 e s4 => ?_
    · refine ⟨_, s4 _ _ hL2, ?_, hlt, Sm.over (s3.trans s4) hD, ?_⟩
      · have h1 := List.length_filterMap_le f (List.range i)
        rw [List.length_range] at h1
        omega
      · rw [upd_same, range_snoc, e]
    · refine ⟨hlt, s3.trans s4, ?_⟩
      rw [range_snoc, e, List.append_nil]
      exact s4 _ _ hL2
  · have e : i = n := by omega
    subst e
    exact .inl ⟨wk.stop H (hS H s), fin H s hL⟩
section
variable {K : PySem.W.Frag} {a b : Addr} {xs ys : List V}
theorem sqL_inj {H : Hp} {xs ys : List V} (h : H a = some (.lst xs)) (h' : SqL K H a ys) (hk : K.lookup a = none) : xs = ys := by
  rcases h' with (q | ⟨o, q⟩) | ⟨o, _, _, e, _⟩
  · rw [h] at q; cases q; rfl
  · rw [h] at q; cases q
  · rw [hk] at e; cases e
theorem wk_list : Wk (Itl K a) (fun H => SqL K H a xs) xs.length (fun i x _ => xs[i]? = some x) where
  go := fun i H q hlt => ⟨xs, xs[i], q, by simp [hlt]⟩
  stop := fun H q => ⟨xs, q, Nat.le_refl _⟩
  yld := fun i H x H' q hlt y => by
    obtain ⟨e, y⟩ := y
    subst e
    exact ⟨Same.refl _, y xs q⟩
theorem wk_range {lo : Int} {n : Nat} : Wk (Itr lo n) (fun _ => True) n (fun i x _ => x = .int (lo + i)) where
  go := fun i H _ hlt => hlt
  stop := fun H _ => Nat.le_refl _
  yld := fun i H x H' _ hlt y => by
    obtain ⟨e, y⟩ := y
    subst e
    exact ⟨Same.refl _, y⟩
theorem wk_enum : Wk (Ite K a) (fun H => SqL K H a xs) xs.length (fun i v H => ∃ T x, v = .ref T ∧ H T = some (.tup [.int (i : Nat), x]) ∧ xs[i]? = some x) where
  go := fun i H q hlt => ⟨xs, xs[i], q, by simp [hlt]⟩
  stop := fun H q => ⟨xs, q, Nat.le_refl _⟩
  yld := fun i H x H' q hlt y => by
    obtain ⟨T, z, e1, e2, e3, y⟩ := y
    subst e3
    exact ⟨Sm.one e2, T, z, e1, upd_same, y xs q⟩
theorem wk_zip : Wk (Itz K a b) (fun H => SqL K H a xs ∧ SqL K H b ys) (min xs.length ys.length) (fun i v H => ∃ T x y, v = .ref T ∧ H T = some (.tup [x, y]) ∧ xs[i]? = some x ∧ ys[i]? = some y) where
  go := fun i H q hlt => ⟨xs, ys, xs[i]'(by omega), ys[i]'(by omega), q.1, q.2, by rw [List.getElem?_eq_getElem (by omega)], by rw [List.getElem?_eq_getElem (by omega)]⟩
  stop := fun H q => ⟨xs, ys, q.1, q.2, by omega⟩
  yld := fun i H x H' q hlt y => by
    obtain ⟨T, z, z2, e1, e2, e3, y, y2⟩ := y
    subst e3
    exact ⟨Sm.one e2, T, z, z2, e1, upd_same, y xs q.1, y2 ys q.2⟩
end
theorem gPair {K : PySem.W.Frag} {i j : Nat} {T : Addr} {x y : V} {σ : St} {H : Hp} {Q : St → Hp → Prop} (h : H T = some (.tup [x, y])) (q : Q ((σ.set i (some x)).set j (some y)) H) :
    gTup K 2 (gCons (gName i) (gCons (gName j) gNil)) (.ref T) σ H Q := ⟨T, _, rfl, SqT.of h, rfl, _, _, rfl, _, _, rfl, rfl, q⟩
theorem pg_pair {X : Cx} {K : PySem.W.Frag} {i j k : Nat} {x y : Str} {p1 p2 p3 : Pos} (hK : X.K = K) (hc : X.calm = true) (hN : X.N.Nodup) (hi : X.N[i]? = some x) (hj : X.N[j]? = some y) (hx : Loc X.env.scope x) (hy : Loc X.env.scope y)
    (hf : X.fn x = true ∨ X.env.scope.names.lookup x = some .local := by first | exact .inl rfl | exact .inr rfl) (hf' : X.fn y = true ∨ X.env.scope.names.lookup y = some .local := by first | exact .inl rfl | exact .inr rfl) :
    PG X (.Tuple [.Name x p1, .Name y p2] k p3) (gTup K 2 (gCons (gName i) (gCons (gName j) gNil))) := by
  subst hK
  exact pg_tup hc (pgs_cons (pg_name hN hi hx hf) (pgs_cons (pg_name hN hj hy hf') pgs_nil))
theorem int_at {xs : List Int} {i : Nat} {x : V} (h : (xs.map V.int)[i]? = some x) : ∃ z, xs[i]? = some z ∧ x = .int z := by
  rw [List.getElem?_map] at h
  cases e : xs[i]? with
  | none => rw [e] at h; cases h
  | some z => rw [e] at h; exact ⟨z, rfl, (Option.some.inj h).symm⟩
theorem int_of {xs : List Int} {i : Nat} {z : Int} (h : xs[i]? = some z) : (xs.map V.int)[i]? = some (.int z) := by
  rw [List.getElem?_map, h]; rfl
theorem take_snoc {α : Type} : ∀ {l : List α} {i : Nat} {x : α}, l[i]? = some x → l.take (i + 1) = l.take i ++ [x]
  | [], i, x, h => by simp at h
  | a :: l, 0, x, h => by
    have e : a = x := Option.some.inj h
    subst e
    rfl
  | a :: l, i + 1, x, h => by
    have ih := take_snoc (l := l) (i := i) (x := x) h
    show a :: l.take (i + 1) = a :: l.take i ++ [x]
    rw [ih]
    rfl
theorem fm_some {α β : Type} (f : α → β) (l : List α) : l.filterMap (fun i => some (f i)) = l.map f := by
  induction l with
  | nil => rfl
  | cons a r ih => simp [ih]
theorem fm_congr {α β : Type} {f g : α → Option β} : ∀ {l : List α}, (∀ a ∈ l, f a = g a) → l.filterMap f = l.filterMap g
  | [], _ => rfl
  | a :: r, h => by rw [List.filterMap_cons, List.filterMap_cons, h a (List.mem_cons_self ..), fm_congr fun b hb => h b (List.mem_cons_of_mem _ hb)]
theorem fm_list (f : Nat → Option V) (g : Int → Int) {xs : List Int} (h : ∀ i z, xs[i]? = some z → f i = some (.int (g z))) : (List.range xs.length).filterMap f = (xs.map g).map V.int := by
  have e : (List.range xs.length).filterMap f = (List.range xs.length).map fun i => V.int (g ((xs[i]?).getD 0)) := by
    rw [← fm_some]
    refine fm_congr fun i hi => ?_
    have hi : i < xs.length := List.mem_range.mp hi
    have e : xs[i]? = some xs[i] := List.getElem?_eq_getElem hi
    rw [h i _ e, e]; rfl
  rw [e]
  refine List.ext_getElem? fun i => ?_
  by_cases hi : i < xs.length
  · simp [hi]
  · simp [hi]
def PvT (t : TT) (σ : St) (H : Hp) (b : Bool) : Prop := ∀ Q : Bool → Hp → Prop, Q b H → t σ H Q
def PvE (t : TE) (σ : St) (H : Hp) (v : V) : Prop := ∀ Q : VK, Q v H → t σ H Q
theorem pvB {te : TE} {σ : St} {H : Hp} {c : Bool} (h : PvE te σ H (.bl c)) : PvT (tB te) σ H c := fun _ q => h _ ⟨_, rfl, q⟩
theorem pvAnd {t u : TT} {σ : St} {H : Hp} {a b : Bool} (h1 : PvT t σ H a) (h2 : a = true → PvT u σ H b) : PvT (tAnd t u) σ H (a && b) := fun Q q => by
  refine h1 _ ?_
  cases a with
  | false => exact iteF q
  | true => exact iteT (h2 rfl Q q)
theorem pvOr {t u : TT} {σ : St} {H : Hp} {a b : Bool} (h1 : PvT t σ H a) (h2 : a = false → PvT u σ H b) : PvT (tOr t u) σ H (a || b) := fun Q q => by
  refine h1 _ ?_
  cases a with
  | false => exact iteF (h2 rfl Q q)
  | true => exact iteT q
theorem pvNot {t : TT} {σ : St} {H : Hp} {a : Bool} (h : PvT t σ H a) : PvT (tNot t) σ H (!a) := fun _ q => h _ q
theorem pvCmp {p : Int → Int → Bool} {ta tb : TE} {σ : St} {H : Hp} {i j : Int} (h1 : PvE ta σ H (.int i)) (h2 : PvE tb σ H (.int j)) : PvT (tB (tCmp p ta tb)) σ H (p i j) := fun _ q => h1 _ (h2 _ ⟨i, j, rfl, rfl, _, rfl, q⟩)
theorem pvVar {i : Nat} {σ : St} {H : Hp} {v : V} (h : σ[i]? = some (some v) := by rfl) : PvE (tVar i) σ H v := fun _ q => ⟨v, h, q⟩
theorem pvC {v : V} {σ : St} {H : Hp} : PvE (tC v) σ H v := fun _ q => q
theorem pvI {g : Int → Int → V} {ta tb : TE} {σ : St} {H : Hp} {i j : Int} (h1 : PvE ta σ H (.int i)) (h2 : PvE tb σ H (.int j)) : PvE (tOp (rI0 g) ta tb) σ H (g i j) := fun _ q => h1 _ (h2 _ ⟨i, j, rfl, rfl, q⟩)
theorem pvIC {C : Int → Int → Prop} {g : Int → Int → V} {ta tb : TE} {σ : St} {H : Hp} {i j : Int} (h1 : PvE ta σ H (.int i)) (h2 : PvE tb σ H (.int j)) (hc : C i j) : PvE (tOp (rI C g) ta tb) σ H (g i j) := fun _ q => h1 _ (h2 _ ⟨i, j, rfl, rfl, hc, q⟩)
theorem pvIx {K : PySem.W.Frag} {ta tb : TE} {σ : St} {H : Hp} {p : Addr} {xs : List V} {i : Int} {v : V} (h1 : PvE ta σ H (.ref p)) (h2 : PvE tb σ H (.int i)) (hp : H p = some (.lst xs)) (hi : atI xs i = some v) : PvE (tOp (rIxL K) ta tb) σ H v :=
  fun _ q => h1 _ (h2 _ ⟨p, xs, i, v, rfl, rfl, SqL.of hp, hi, q⟩)
theorem pvFld {K : PySem.W.Frag} {ta : TE} {f : Str} {σ : St} {H : Hp} {a C dx : Addr} {fs : List (Str × V)} {v : V} (h1 : PvE ta σ H (.ref a)) (ha : H a = some (.ins C dx fs)) (hc : Cls K C) (hn : NoAttr K C f) (hl : fs.lookup f = some v) : PvE (tFld K ta f) σ H v :=
  fun _ q => h1 _ ⟨a, C, dx, fs, v, rfl, ha, hc, hn, hl, q⟩
theorem pvLen {K : PySem.W.Frag} {ta : TE} {σ : St} {H : Hp} {p : Addr} {xs : List V} (h1 : PvE ta σ H (.ref p)) (hp : H p = some (.lst xs)) :
    PvE (tCB (fun vs H Q => ∃ p ys, vs = [.ref p] ∧ (SqL K H p ys ∨ SqT K H p ys) ∧ Q (.int ys.length) H) (tCons ta tNil)) σ H (.int xs.length) := fun _ q => h1 _ ⟨p, xs, rfl, .inl (SqL.of hp), q⟩
theorem ifS {t : TT} {T E : TS} {D : Ends} {σ : St} {H : Hp} {b : Bool} (h : PvT t σ H b) (h1 : b = true → T D σ H) (h2 : b = false → E D σ H) : tIfS t T E D σ H := h _ (by
  cases b with
  | false => exact iteF (h2 rfl)
  | true => exact iteT (h1 rfl))
theorem at_int {xs : List Int} {j : Nat} (h : j < xs.length) : atI (xs.map V.int) (j : Int) = some (.int (Vbemat.nth xs j)) :=
  atI_nat (int_of (by rw [Vbemat.nth, List.getElem?_eq_getElem h]; rfl))
theorem nth_of {xs : List Int} {j : Nat} {z : Int} (h : xs[j]? = some z) : Vbemat.nth xs j = z := by rw [Vbemat.nth, h]; rfl
theorem set_at {xs : List Int} {j : Nat} {z : Int} : (xs.map V.int).set j (.int z) = (Vbemat.setAt z j xs).map V.int := by
  induction xs generalizing j with
  | nil => cases j <;> rfl
  | cons a r ih =>
    cases j with
    | zero => rfl
    | succ j => show V.int a :: (r.map V.int).set j (.int z) = _; rw [ih]; rfl
theorem bt_max : bootBuiltins "max" = some (.builtin "max") := by decide +kernel
theorem bt_min : bootBuiltins "min" = some (.builtin "min") := by decide +kernel
theorem bt_sum : bootBuiltins "sum" = some (.builtin "sum") := by decide +kernel
theorem bt_len : bootBuiltins "len" = some (.builtin "len") := by decide +kernel
theorem bt_list : bootBuiltins "list" = some (.type "list") := by decide +kernel
theorem bt_sorted : bootBuiltins "sorted" = some (.builtin "sorted") := by decide +kernel
structure Bi (mg : Str → Option Value) : Prop where
  zip : mg "zip" = none
  range : mg "range" = none
  len : mg "len" = none
  max : mg "max" = none
  min : mg "min" = none
  sum : mg "sum" = none
  sorted : mg "sorted" = none
  enumerate : mg "enumerate" = none
  list : mg "list" = none
end Hs
end
section
set_option Elab.async false
set_option maxRecDepth 100000
set_option maxHeartbeats 2000000
namespace Hs
open PySem PySem.Spec
open PyProof.Rows hiding St
open L2
section
variable {P : Program} {w : World} {K : PySem.W.Frag} {mg : Str → Option Value} {base : Heap}
abbrev sSetSums : Stmt := top 11
abbrev nSetSums : List Str := ["values", "sums", "value", "before"]
theorem scSetSums : FnScope nSetSums ["values"] (defScope sSetSums) := ⟨rfl, rfl, rfl, by decide +kernel, rfl, by decide +kernel, by decide +kernel⟩
def spSetSums : Sp := fun vs H Q _ => ∃ (p : Addr) (xs : List Int), vs = [.ref p] ∧ LI H p xs ∧ xs.length ≤ 8 ∧ ∀ (q : Addr) (H' : Hp), Same H H' → LI H' q (Lev.setSums xs) → Q (.ref q) H'
theorem setSums_small {xs : List Int} (h : xs.length ≤ 8) : (Lev.setSums xs).length ≤ 256 := by
  rw [Lev.length_setSums]
  exact Nat.pow_le_pow_right (by decide) h
theorem line_le {n : Nat} (h : n ≤ 100000) : n ≤ sizeLine := Nat.le_trans h (by decide)
theorem ok_setSums {f : Addr} {fd : FuncData} (F : Fun K "set_sums" "set_sums" sSetSums f fd) : FnOk P w K mg base CX0 1 f fd ["values"] spSetSums := by
  refine F.ok scSetSums (fun vs H Q E h => ?_) (fun cdv A outer s H vs Q E hr h => ?_)
  · obtain ⟨p, xs, rfl, _⟩ := h
    rfl
  · obtain ⟨p, xs, rfl, hp, hl, k⟩ := h
    refine ⟨_, pss_cons (ps_set (i := 1) scSetSums.nd rfl (Or.inl rfl) (pe_lst (pa_cons pe_int pa_nil)))
      (pss_cons (ps_for PassesOwn.never rfl (pi_list (pv 0)) (pg_name (i := 2) scSetSums.nd rfl (Or.inr rfl))
        (pss_one (ps_set (i := 1) scSetSums.nd rfl (Or.inl rfl) (pe_op op_cat (pv 1) (pe_lc (own := [("before", 3)]) rfl scSetSums.nd (pi_list (pv 1)) (blkOk_by (show blkC nSetSums (defScope sSetSums) _ _ = true by decide +kernel))
          (fun _ _ _ _ _ => pg_name (i := 3) scSetSums.nd rfl (Or.inl rfl)) (fun _ _ _ _ _ => pts_nil) (fun _ _ _ _ _ => pe_op op_add (pv 3) (pv 2)))))))
      (pss_one (ps_ret (pv 1)))), ?_⟩
    refine ⟨by decide, fun q hq => ?_⟩
    refine ⟨_, rfl, p, rfl, ⟨_, SqL.of ((Sm.one hq) _ _ hp)⟩, forW wk_list (fun i σ H' => ∃ (q : Addr) (v : Option V), σ = [some (.ref p), some (.ref q), v, none] ∧ LI H' q (Lev.setSums (xs.take i)) ∧ Same H H')
      ⟨q, none, rfl, upd_same, Sm.one hq⟩ (fun i σ H' _ ⟨_, _, _, _, s⟩ => SqL.of (s _ _ hp)) ?_ ?_⟩
    · rintro i x σ H1 H2 hi ⟨q, v, rfl, hq, s⟩ s2 hx
      obtain ⟨z, hz, rfl⟩ := int_at hx
      rw [List.length_map] at hi
      have hq2 := s2 _ _ hq
      have hlen : (Lev.setSums (xs.take i)).length ≤ 256 := setSums_small (by rw [List.length_take]; omega)
      refine ⟨_, rfl, _, rfl, q, rfl, ⟨_, SqL.of hq2⟩, fun D hD => lcW hD wk_list ?_ (fun H' s' => SqL.of (s' _ _ hq2)) (fun j => ((Lev.setSums (xs.take i))[j]?).map fun b => V.int (b + z)) ?_ ?_⟩
      · rw [List.length_map]; exact line_le (by omega)
      · rintro j y H3 Q' N hj s3 hy k1 k2
        obtain ⟨u, hu, rfl⟩ := int_at hy
        exact ⟨rfl, iteT (B := N H3) ⟨_, rfl, _, rfl, _, _, rfl, rfl, k1 _ _ (by rw [hu]; rfl) (Same.refl _)⟩⟩
      · intro H3 s3 h3
        rw [List.length_map, fm_list _ (fun b => b + z) (fun j u hu => by rw [hu]; rfl)] at h3
        refine ⟨q, D, _, _, rfl, rfl, s3 _ _ hq2, h3, ?_, fun p2 hp2 => ?_⟩
        · simp only [List.length_map]; exact line_le (by omega)
        · refine ⟨p2, some (.int z), rfl, ?_, (s.trans (s2.trans s3)).trans (Sm.one hp2)⟩
          rw [take_snoc hz, Lev.setSums_snoc]
          exact upd_same.trans (by rw [List.map_append])
    · rintro σ H' ⟨q, v, rfl, hq, s⟩
      rw [List.length_map, List.take_length] at hq
      exact ⟨_, rfl, k q H' s hq⟩
end
end Hs
end
section
set_option Elab.async false
set_option maxRecDepth 100000
set_option maxHeartbeats 2000000
namespace Hs
open PySem PySem.Spec
open PyProof.Rows hiding St
open L2
section
variable {P : Program} {w : World} {K : PySem.W.Frag} {mg : Str → Option Value} {base : Heap}
abbrev sRounded : Stmt := top 15
abbrev nRounded : List Str := ["amount", "parts"]
theorem scRounded : FnScope nRounded ["amount", "parts"] (defScope sRounded) := ⟨rfl, rfl, rfl, by decide +kernel, rfl, by decide +kernel, by decide +kernel⟩
def spRounded : Sp := fun vs H Q _ => ∃ a b : Int, vs = [.int a, .int b] ∧ 0 < b ∧ b < 1073741824 ∧ Q (.int (Lev.roundedUp a b)) H
theorem ok_rounded {f : Addr} {fd : FuncData} (F : Fun K "rounded_up" "rounded_up" sRounded f fd) : FnOk P w K mg base CX0 1 f fd ["amount", "parts"] spRounded := by
  refine F.ok scRounded (fun vs H Q E h => ?_) (fun cdv A outer s H vs Q E hr h => ?_)
  · obtain ⟨a, b, rfl, _⟩ := h
    rfl
  · obtain ⟨a, b, rfl, h1, h2, k⟩ := h
    refine ⟨_, pss_one (ps_ret (pe_op op_fdiv (pe_op op_sub (pe_op op_add (pv 0) (pv 1)) pe_int) (pv 1))), ?_⟩
    exact pvIC (pvI (pvI pvVar pvVar) pvC) pvVar ⟨h1, h2⟩ _ k
abbrev sHolds : Stmt := top 16
abbrev nHolds : List Str := ["part", "period"]
theorem scHolds : FnScope nHolds ["part", "period"] (defScope sHolds) := ⟨rfl, rfl, rfl, by decide +kernel, rfl, by decide +kernel, by decide +kernel⟩
def bit (p t : Nat) : Int := if p.testBit t = true then 1 else 0
def spHolds : Sp := fun vs H Q _ => ∃ p t : Nat, vs = [.int p, .int t] ∧ Q (.int (bit p t)) H
theorem bit_eq (p t : Nat) : Builtin.bitAnd ((p : Int) / 2 ^ t) 1 = bit p t := by
  rw [bitAnd_m1]
  have e : ((p : Int) / 2 ^ t % 2) = ((p / 2 ^ t % 2 : Nat) : Int) := by
    rw [two_pow_cast]; simp
  rw [e]
  unfold bit
  rw [Nat.testBit_eq_decide_div_mod_eq]
  by_cases h : p / 2 ^ t % 2 = 1
  · simp [h]
  · simp [h]; omega
theorem ok_holds {f : Addr} {fd : FuncData} (F : Fun K "holds" "holds" sHolds f fd) : FnOk P w K mg base CX0 1 f fd ["part", "period"] spHolds := by
  refine F.ok scHolds (fun vs H Q E h => ?_) (fun cdv A outer s H vs Q E hr h => ?_)
  · obtain ⟨a, b, rfl, _⟩ := h
    rfl
  · obtain ⟨p, t, rfl, k⟩ := h
    refine ⟨_, pss_one (ps_ret (pe_op op_and (pe_op op_shr (pv 0) (pv 1)) pe_int)), ?_⟩
    refine ⟨_, rfl, _, rfl, _, _, rfl, rfl, Int.natCast_nonneg t, _, _, rfl, rfl, ?_⟩
    show Q (.int (Builtin.bitAnd ((p : Int) / 2 ^ ((t : Nat) : Int).toNat) 1)) H
    rw [Int.toNat_natCast, bit_eq]
    exact k
abbrev sForcedBy : Stmt := top 12
abbrev nForcedBy : List Str := ["need", "rooms", "sums", "spare", "inside"]
theorem scForcedBy : FnScope nForcedBy ["need", "rooms"] (defScope sForcedBy) := ⟨rfl, rfl, rfl, by decide +kernel, rfl, by decide +kernel, by decide +kernel⟩
def spForcedBy : Sp := fun vs H Q _ => ∃ (need : Int) (p : Addr) (xs : List Int), vs = [.int need, .ref p] ∧ LI H p xs ∧ xs.length ≤ 8 ∧ ∀ (q : Addr) (H' : Hp), Same H H' → LI H' q (Lev.forcedBy need xs) → Q (.ref q) H'
theorem max_if (i j : Int) : (if j > i then j else i) = max i j := by omega
theorem min_if (i j : Int) : (if j < i then j else i) = min i j := by omega
theorem at_last {xs : List Int} (h : 0 < xs.length) : atI (xs.map V.int) (-1) = some (.int (Vbemat.nth xs (xs.length - 1))) := by
  have e : ixN (xs.map V.int).length (-1) = some (xs.length - 1) := by
    unfold ixN
    rw [List.length_map, if_neg (by decide), if_pos (by omega)]
    congr 1
    omega
  unfold atI
  rw [e]
  exact int_of (by rw [Vbemat.nth, List.getElem?_eq_getElem (by omega)]; rfl)
theorem setSums_pos (xs : List Int) : 0 < (Lev.setSums xs).length := by rw [Lev.length_setSums]; exact Nat.two_pow_pos _
theorem ok_forcedBy {f : Addr} {fd : FuncData} (F : Fun K "forced_by" "forced_by" sForcedBy f fd) (B : Bi mg) (C : Cal P w K mg base 1 "set_sums" ["values"] spSetSums) : FnOk P w K mg base CX0 2 f fd ["need", "rooms"] spForcedBy := by
  refine F.ok scForcedBy (fun vs H Q E h => ?_) (fun cdv A outer s H vs Q E hr h => ?_)
  · obtain ⟨a, b, c, rfl, _⟩ := h
    rfl
  · obtain ⟨need, p, xs, rfl, hp, hl, k⟩ := h
    refine ⟨_, pss_cons (ps_set (i := 2) scForcedBy.nd rfl (Or.inl rfl) (pcall C hr rfl (pa_cons (pv 1) pa_nil)))
      (pss_cons (ps_set (i := 3) scForcedBy.nd rfl (Or.inr rfl) (pe_op op_sub (pe_ix ix_list (pv 2) (pe_un un_neg pe_int) (fun _ _ => rfl)) (pv 0)))
      (pss_one (ps_ret (pe_lc (own := [("inside", 4)]) rfl scForcedBy.nd (pi_list (pv 2)) (blkOk_by (show blkC nForcedBy (defScope sForcedBy) _ _ = true by decide +kernel))
        (fun _ _ _ _ _ => pg_name (i := 4) scForcedBy.nd rfl (Or.inl rfl)) (fun _ _ _ _ _ => pts_nil)
        (fun _ _ _ _ _ => pe_callB (call_max2 rfl) rfl B.max bt_max (pa_cons pe_int (pa_cons (pe_op op_sub (pv 4) (pv 3)) pa_nil))))))), ?_⟩
    refine ⟨_, rfl, p, xs, rfl, hp, hl, fun q H1 s1 hq => ?_⟩
    have hlen := setSums_small hl
    have hpos := setSums_pos xs
    refine ⟨_, rfl, _, rfl, q, _, _, _, rfl, rfl, SqL.of hq, at_last hpos, _, rfl, _, _, rfl, rfl, ?_⟩
    refine ⟨_, rfl, q, rfl, ⟨_, SqL.of hq⟩, fun D hD => lcW hD wk_list ?_ (fun H' s' => SqL.of (s' _ _ hq)) (fun j => ((Lev.setSums xs)[j]?).map fun b => V.int (max 0 (b - (Vbemat.nth (Lev.setSums xs) ((Lev.setSums xs).length - 1) - need)))) ?_ ?_⟩
    · rw [List.length_map]; exact line_le (by omega)
    · rintro j y H3 Q' N hj s3 hy k1 k2
      obtain ⟨u, hu, rfl⟩ := int_at hy
      exact ⟨rfl, iteT (B := N H3) ⟨_, rfl, _, rfl, _, _, rfl, rfl, _, _, rfl, by rw [max_if]; exact k1 _ _ (by rw [hu]; rfl) (Same.refl _)⟩⟩
    · intro H3 s3 h3
      rw [List.length_map, fm_list _ (fun b => max 0 (b - (Vbemat.nth (Lev.setSums xs) ((Lev.setSums xs).length - 1) - need))) (fun j u hu => by rw [hu]; rfl)] at h3
      exact k D H3 (s1.trans s3) h3
end
end Hs
end
section
set_option Elab.async false
set_option maxRecDepth 100000
set_option maxHeartbeats 2000000
namespace Hs
open PySem PySem.Spec
open PyProof.Rows hiding St
open L2
theorem band (i d : Nat) : Builtin.bitAnd (i : Int) (d : Int) = ((i &&& d : Nat) : Int) := by
  rw [bitAnd_pp (by omega) (by omega), Int.toNat_natCast, Int.toNat_natCast]
theorem range_fold {β : Type} (f : β → Nat → β) (b : β) (i : Nat) : (List.range (i + 1)).foldl f b = f ((List.range i).foldl f b) i := by
  rw [List.range_succ, List.foldl_append]; rfl
section
variable {P : Program} {w : World} {K : PySem.W.Frag} {mg : Str → Option Value} {base : Heap}
abbrev sNextLevel : Stmt := top 17
abbrev nNextLevel : List Str := ["least", "sizes", "done", "level", "wider", "mean"]
theorem scNextLevel : FnScope nNextLevel ["least", "sizes", "done"] (defScope sNextLevel) := ⟨rfl, rfl, rfl, by decide +kernel, rfl, by decide +kernel, by decide +kernel⟩
def spNextLevel : Sp := fun vs H Q _ => ∃ (p q : Addr) (least sizes : List Int) (done : Nat), vs = [.ref p, .ref q, .int done] ∧ LI H p least ∧ LI H q sizes ∧ sizes.length = least.length ∧ least.length ≤ 256 ∧ done < least.length ∧
  (∀ i, i < least.length → i ≠ done → i &&& done = done → 0 < Vbemat.nth sizes i - Vbemat.nth sizes done ∧ Vbemat.nth sizes i - Vbemat.nth sizes done < 1073741824) ∧ ∀ H' : Hp, Same H H' → Q (.int (Lev.nextLevel least sizes done)) H'
theorem ok_nextLevel {f : Addr} {fd : FuncData} (F : Fun K "next_level" "next_level" sNextLevel f fd) (B : Bi mg) (C : Cal P w K mg base 1 "rounded_up" ["amount", "parts"] spRounded) : FnOk P w K mg base CX0 2 f fd ["least", "sizes", "done"] spNextLevel := by
  refine F.ok scNextLevel (fun vs H Q E h => ?_) (fun cdv A outer s H vs Q E hr h => ?_)
  · obtain ⟨a, b, c, d, e, rfl, _⟩ := h
    rfl
  · obtain ⟨p, q, least, sizes, done, rfl, hp, hq, hsz, hl, hd, hdiv, k⟩ := h
    refine ⟨_, pss_cons (ps_set (i := 3) scNextLevel.nd rfl (Or.inl rfl) pe_int)
      (pss_cons (ps_for PassesOwn.never rfl (pi_range1 rfl B.range (pa_cons (pe_callB call_len_seq rfl B.len bt_len (pa_cons (pv 0) pa_nil)) pa_nil)) (pg_name (i := 4) scNextLevel.nd rfl (Or.inl rfl))
        (pss_one (ps_if (PW.pt (pw_and (pt_cmp (pc_neI (pv 4) (pv 2))) (pw_and1 (pt_cmp (pc_eqI (pe_op op_and (pv 4) (pv 2)) (pv 2))))))
          (pss_cons (ps_set (i := 5) scNextLevel.nd rfl (Or.inl rfl) (pcall C hr rfl (pa_cons (pe_op op_sub (pe_ix ix_list (pv 0) (pv 4) (fun _ _ => rfl)) (pe_ix ix_list (pv 0) (pv 2) (fun _ _ => rfl)))
              (pa_cons (pe_op op_sub (pe_ix ix_list (pv 1) (pv 4) (fun _ _ => rfl)) (pe_ix ix_list (pv 1) (pv 2) (fun _ _ => rfl))) pa_nil))))
            (pss_one (ps_set (i := 3) scNextLevel.nd rfl (Or.inl rfl) (pe_callB (call_max2 rfl) rfl B.max bt_max (pa_cons (pv 3) (pa_cons (pv 5) pa_nil))))))
          pss_nil)))
      (pss_one (ps_ret (pv 3)))), ?_⟩
    have hm : (((least.map V.int).length : Nat) : Int).toNat = least.length := by rw [List.length_map]; omega
    refine ⟨_, rfl, p, _, rfl, .inl (SqL.of hp), _, rfl, by omega, by rw [List.length_map]; omega, forW wk_range (fun i σ H' => ∃ (l : Int) (v5 v6 : Option V), σ = [some (.ref p), some (.ref q), some (.int done), some (.int l), v5, v6] ∧ l = (List.range i).foldl (Lev.levelStep least sizes done) 0 ∧ Same H H')
      ⟨_, none, none, rfl, rfl, Same.refl H⟩ (fun _ _ _ _ _ => trivial) ?_ ?_⟩
    · rintro i x σ H1 H2 hi ⟨l, v5, v6, rfl, hl2, s⟩ s2 hx
      rw [hm] at hi
      rw [Int.zero_add] at hx
      subst hx
      have s3 := s.trans s2
      refine ifS (pvAnd (pvCmp pvVar pvVar) (fun _ => pvCmp (pvI pvVar pvVar) pvVar)) (fun hb => ?_) (fun hb => ?_)
      · rw [band, Bool.and_eq_true, Bool.not_eq_true', decide_eq_false_iff_not, decide_eq_true_eq] at hb
        have h1 : i ≠ done := fun e => hb.1 (by rw [e])
        have h2 : i &&& done = done := by have := hb.2; omega
        obtain ⟨d1, d2⟩ := hdiv i hi h1 h2
        refine pvI (pvIx pvVar pvVar (s3 _ _ hp) (at_int hi)) (pvIx pvVar pvVar (s3 _ _ hp) (at_int hd)) _ (pvI (pvIx pvVar pvVar (s3 _ _ hq) (at_int (by omega))) (pvIx pvVar pvVar (s3 _ _ hq) (at_int (by omega))) _ ?_)
        refine ⟨_, _, rfl, d1, d2, ?_⟩
        refine ⟨_, rfl, _, rfl, _, _, rfl, ?_⟩
        refine ⟨_, _, _, rfl, ?_, s3⟩
        rw [range_fold, max_if, hl2]
        unfold Lev.levelStep
        rw [if_pos ⟨h1, h2⟩]
      · refine ⟨_, _, _, rfl, ?_, s3⟩
        rw [range_fold, hl2]
        have h2 : ¬ (i ≠ done ∧ i &&& done = done) := fun ⟨a, b⟩ => by
          have e1 : (!decide ((i : Int) = (done : Int)) && decide (Builtin.bitAnd (i : Int) (done : Int) = (done : Int))) = true := by
            rw [band, b, Bool.and_eq_true]
            exact ⟨by simp; omega, by simp⟩
          rw [e1] at hb
          cases hb
        rw [show Lev.levelStep least sizes done ((List.range i).foldl (Lev.levelStep least sizes done) 0) i = (List.range i).foldl (Lev.levelStep least sizes done) 0 by unfold Lev.levelStep; rw [if_neg h2]]
    · rintro σ H' ⟨l, v5, v6, rfl, hl2, s⟩
      rw [hm] at hl2
      subst hl2
      exact ⟨_, rfl, k H' s⟩
end
end Hs
end
section
set_option Elab.async false
set_option maxRecDepth 100000
set_option maxHeartbeats 2000000
namespace Hs
open PySem PySem.Spec
open PyProof.Rows hiding St
open L2
section
variable {P : Program} {w : World} {K : PySem.W.Frag} {mg : Str → Option Value} {base : Heap}
abbrev sNextDone : Stmt := top 18
abbrev nNextDone : List Str := ["least", "sizes", "done", "level", "found", "beyond", "wider", "more"]
theorem scNextDone : FnScope nNextDone ["least", "sizes", "done", "level"] (defScope sNextDone) := ⟨rfl, rfl, rfl, by decide +kernel, rfl, by decide +kernel, by decide +kernel⟩
def spNextDone : Sp := fun vs H Q _ => ∃ (p q : Addr) (least sizes : List Int) (done : Nat) (level : Int), vs = [.ref p, .ref q, .int done, .int level] ∧ LI H p least ∧ LI H q sizes ∧ sizes.length = least.length ∧ least.length ≤ 256 ∧ done < least.length ∧
  (∀ i, i < least.length → -(2 ^ 64) < Vbemat.nth sizes i - Vbemat.nth sizes done ∧ Vbemat.nth sizes i - Vbemat.nth sizes done < 2 ^ 64) ∧ ∀ H' : Hp, Same H H' → Q (.int (Lev.nextDone least sizes done level : Nat)) H'
theorem ok_nextDone {f : Addr} {fd : FuncData} (F : Fun K "next_done" "next_done" sNextDone f fd) (B : Bi mg) : FnOk P w K mg base CX0 1 f fd ["least", "sizes", "done", "level"] spNextDone := by
  refine F.ok scNextDone (fun vs H Q E h => ?_) (fun cdv A outer s H vs Q E hr h => ?_)
  · obtain ⟨a, b, c, d, e, g, rfl, _⟩ := h
    rfl
  · obtain ⟨p, q, least, sizes, done, level, rfl, hp, hq, hsz, hl, hd, hdiv, k⟩ := h
    have nd := scNextDone.nd
    refine ⟨_, pss_cons (ps_set (i := 4) nd rfl (Or.inl rfl) (pv 2)) (pss_cons (ps_set (i := 5) nd rfl (Or.inl rfl) pe_int)
      (pss_cons (ps_for PassesOwn.never rfl (pi_range1 rfl B.range (pa_cons (pe_callB call_len_seq rfl B.len bt_len (pa_cons (pv 0) pa_nil)) pa_nil)) (pg_name (i := 6) nd rfl (Or.inl rfl))
        (pss_one (ps_if (pt_cmp (pc_eqI (pe_op op_and (pv 6) (pv 2)) (pv 2)))
          (pss_cons (ps_set (i := 7) nd rfl (Or.inl rfl) (pe_op op_sub (pe_op op_sub (pe_ix ix_list (pv 0) (pv 6) (fun _ _ => rfl)) (pe_ix ix_list (pv 0) (pv 2) (fun _ _ => rfl)))
              (pe_op op_mul (pe_op op_sub (pv 3) pe_int) (pe_op op_sub (pe_ix ix_list (pv 1) (pv 6) (fun _ _ => rfl)) (pe_ix ix_list (pv 1) (pv 2) (fun _ _ => rfl))))))
            (pss_one (ps_if (pt_cmp (pc_gt (pv 7) (pv 5))) (pss_cons (ps_set (i := 4) nd rfl (Or.inl rfl) (pv 6)) (pss_one (ps_set (i := 5) nd rfl (Or.inl rfl) (pv 7)))) pss_nil)))
          pss_nil)))
      (pss_one (ps_ret (pv 4))))), ?_⟩
    have hm : (((least.map V.int).length : Nat) : Int).toNat = least.length := by rw [List.length_map]; omega
    refine ⟨_, rfl, ?_⟩
    refine ⟨_, rfl, p, _, rfl, .inl (SqL.of hp), _, rfl, by omega, by rw [List.length_map]; omega, forW wk_range (fun i σ H' => ∃ (st : Nat × Int) (v7 v8 : Option V), σ = [some (.ref p), some (.ref q), some (.int done), some (.int level), some (.int (st.1 : Nat)), some (.int st.2), v7, v8] ∧ st = (List.range i).foldl (Lev.doneStep least sizes done level) (done, 0) ∧ Same H H')
      ⟨(done, 0), none, none, rfl, rfl, Same.refl H⟩ (fun _ _ _ _ _ => trivial) ?_ ?_⟩
    · rintro i x σ H1 H2 hi ⟨st, v5, v6, rfl, hl2, s⟩ s2 hx
      rw [hm] at hi
      rw [Int.zero_add] at hx
      subst hx
      have s3 := s.trans s2
      have hi2 : i < sizes.length := by omega
      have hd2 : done < sizes.length := by omega
      refine ifS (pvCmp (pvI pvVar pvVar) pvVar) (fun hb => ?_) (fun hb => ?_)
      · rw [band, decide_eq_true_eq] at hb
        have h2 : i &&& done = done := by omega
        refine pvI (pvI (pvIx pvVar pvVar (s3 _ _ hp) (at_int hi)) (pvIx pvVar pvVar (s3 _ _ hp) (at_int hd))) (pvIC (pvI pvVar pvC) (pvI (pvIx pvVar pvVar (s3 _ _ hq) (at_int hi2)) (pvIx pvVar pvVar (s3 _ _ hq) (at_int hd2))) (by exact .inr (hdiv i hi))) _ ?_
        refine ifS (pvCmp pvVar pvVar) (fun hc => ?_) (fun hc => ?_)
        · rw [decide_eq_true_eq] at hc
          refine ⟨_, rfl, _, rfl, ⟨(i, _), _, _, rfl, ?_, s3⟩⟩
          rw [range_fold, ← hl2]
          unfold Lev.doneStep Lev.beyond
          rw [if_pos h2, if_pos hc]
        · rw [decide_eq_false_iff_not] at hc
          refine ⟨st, _, _, rfl, ?_, s3⟩
          rw [range_fold, ← hl2]
          unfold Lev.doneStep Lev.beyond
          rw [if_pos h2, if_neg hc]
      · rw [band, decide_eq_false_iff_not] at hb
        have h2 : ¬ i &&& done = done := fun e => hb (by rw [e])
        refine ⟨st, _, _, rfl, ?_, s3⟩
        rw [range_fold, ← hl2]
        unfold Lev.doneStep
        rw [if_neg h2]
    · rintro σ H' ⟨st, v5, v6, rfl, hl2, s⟩
      rw [hm] at hl2
      subst hl2
      exact ⟨_, rfl, k H' s⟩
abbrev sCanHold : Stmt := top 19
abbrev nCanHold : List Str := ["totals", "least", "found", "part", "total"]
theorem scCanHold : FnScope nCanHold ["totals", "least", "found"] (defScope sCanHold) := ⟨rfl, rfl, rfl, by decide +kernel, rfl, by decide +kernel, by decide +kernel⟩
def spCanHold : Sp := fun vs H Q _ => ∃ (p q : Addr) (totals least : List Int) (found : Nat), vs = [.ref p, .ref q, .int found] ∧ LI H p totals ∧ LI H q least ∧ totals.length ≤ 8 ∧ least.length = 2 ^ totals.length ∧ ∀ H' : Hp, Same H H' → Q (.bl (Lev.canHold totals least found)) H'
theorem ok_canHold {f : Addr} {fd : FuncData} (F : Fun K "can_hold" "can_hold" sCanHold f fd) (B : Bi mg) (C : Cal P w K mg base 1 "set_sums" ["values"] spSetSums) : FnOk P w K mg base CX0 2 f fd ["totals", "least", "found"] spCanHold := by
  refine F.ok scCanHold (fun vs H Q E h => ?_) (fun cdv A outer s H vs Q E hr h => ?_)
  · obtain ⟨a, b, c, d, e, rfl, _⟩ := h
    rfl
  · obtain ⟨p, q, totals, least, found, rfl, hp, hq, hl, hz, k⟩ := h
    have nd := scCanHold.nd
    refine ⟨_, pss_cons (ps_for PassesOwn.never rfl (pi_enum rfl B.enumerate (pa_cons (pcall C hr rfl (pa_cons (pv 0) pa_nil)) pa_nil)) (pg_tup rfl (pgs_cons (pg_name (i := 3) nd rfl (Or.inl rfl)) (pgs_cons (pg_name (i := 4) nd rfl (Or.inl rfl)) pgs_nil)))
        (pss_one (ps_if (PW.pt (pw_and (pt_cmp (pc_eqI (pe_op op_and (pv 3) (pv 2)) (pv 3))) (pw_and1 (pt_cmp (pc_lt (pv 4) (pe_ix ix_list (pv 1) (pv 3) (fun _ _ => rfl)))))))
          (pss_one (ps_ret pe_bl)) pss_nil)))
      (pss_one (ps_ret pe_bl)), ?_⟩
    refine ⟨_, rfl, p, totals, rfl, hp, hl, fun r H1 s1 hr1 => ?_⟩
    have hS := Lev.length_setSums totals
    refine ⟨r, _, rfl, SqL.of hr1, forW wk_enum (fun i σ H' => ∃ v3 v4 : Option V, σ = [some (.ref p), some (.ref q), some (.int found), v3, v4] ∧ Same H1 H' ∧ ∀ j, j < i → ¬ (j &&& found = j ∧ Vbemat.nth (Lev.setSums totals) j < Vbemat.nth least j))
      ⟨none, none, rfl, Same.refl H1, fun j hj => absurd hj (Nat.not_lt_zero j)⟩ (fun _ _ H' _ ⟨_, _, _, s, _⟩ => SqL.of (s _ _ hr1)) ?_ ?_⟩
    · rintro i x σ H2 H3 hi ⟨v3, v4, rfl, s2, hno⟩ s3 ⟨T, y, rfl, hT, hy⟩
      obtain ⟨z, hz2, rfl⟩ := int_at hy
      rw [List.length_map] at hi
      have hi2 : i < least.length := by omega
      have s4 := s1.trans (s2.trans s3)
      refine gPair hT ?_
      refine ifS (pvAnd (pvCmp (pvI pvVar pvVar) pvVar) (fun _ => pvCmp pvVar (pvIx pvVar pvVar (s4 _ _ hq) (at_int hi2)))) (fun hb => ?_) (fun hb => ?_)
      · rw [band, Bool.and_eq_true, decide_eq_true_eq, decide_eq_true_eq, ← nth_of hz2] at hb
        have e : Lev.canHold totals least found = false := by
          unfold Lev.canHold
          rw [List.all_eq_false]
          refine ⟨i, List.mem_range.mpr hi, ?_⟩
          have h1 : i &&& found = i := by omega
          simp [h1, hb.2]
        have := k H3 s4
        rw [e] at this
        exact this
      · refine ⟨_, _, rfl, s2.trans s3, fun j hj => ?_⟩
        by_cases hji : j < i
        · exact hno j hji
        · have e : j = i := by omega
          subst e
          intro ⟨a, b⟩
          rw [band, a, ← nth_of hz2] at hb
          simp [b] at hb
    · rintro σ H' ⟨v3, v4, rfl, s2, hno⟩
      rw [List.length_map] at hno
      have e : Lev.canHold totals least found = true := by
        unfold Lev.canHold
        rw [List.all_eq_true]
        intro j hj
        have := hno j (List.mem_range.mp hj)
        rw [← Bool.decide_and, Bool.not_eq_true', decide_eq_false_iff_not]
        exact this
      have := k H' (s1.trans s2)
      rw [e] at this
      exact this
end
end Hs
end
section
set_option Elab.async false
set_option maxRecDepth 100000
set_option maxHeartbeats 2000000
namespace Hs
open PySem PySem.Spec
open PyProof.Rows hiding St
open L2
theorem ixN_nat {n t : Nat} (h : t < n) : ixN n (t : Int) = some t := by
  unfold ixN
  rw [if_pos (by omega), if_pos (by omega), Int.toNat_natCast]
theorem nat_at {L : List Nat} {i : Nat} {x : V} (h : (L.map fun t : Nat => V.int (t : Int))[i]? = some x) : ∃ t : Nat, L[i]? = some t ∧ x = .int (t : Int) := by
  rw [List.getElem?_map] at h
  cases e : L[i]? with
  | none => rw [e] at h; cases h
  | some z => rw [e] at h; exact ⟨z, rfl, (Option.some.inj h).symm⟩
theorem inside_fm (n found done : Nat) : (List.range n).filterMap (fun i => if (found - done).testBit i = true then some (V.int ((i : Nat) : Int)) else none) = (Lev.insideOf n found done).map fun t : Nat => V.int (t : Int) := by
  unfold Lev.insideOf
  induction List.range n with
  | nil => rfl
  | cons a r ih =>
    by_cases h : (found - done).testBit a = true
    · rw [List.filterMap_cons, if_pos h, List.filter_cons, if_pos h, List.map_cons, ih]
    · rw [List.filterMap_cons, if_neg h, List.filter_cons, if_neg h, ih]
theorem bit_one (p t : Nat) : decide (bit p t = 1) = p.testBit t := by
  unfold bit
  cases p.testBit t <;> rfl
theorem bit_if {p t : Nat} {A B : Prop} (h1 : p.testBit t = true → A) (h2 : p.testBit t = false → B) : if decide (bit p t = 1) = true then A else B := by
  rw [bit_one]
  cases hb : p.testBit t with
  | true => exact iteT (h1 hb)
  | false => exact iteF (h2 hb)
theorem len_fold_set (f : List Int → Nat → List Int) (hf : ∀ c t, (f c t).length = c.length) : ∀ (L : List Nat) (c : List Int), (L.foldl f c).length = c.length
  | [], c => rfl
  | t :: L, c => by rw [List.foldl_cons, len_fold_set f hf L, hf]
theorem len_lower (least : List Int) (found : Nat) (level : Int) (c : List Int) (t : Nat) : (Lev.lower least found level c t).length = c.length := by
  unfold Lev.lower
  split
  · rw [Lev.length_setAt]
  · rw [Lev.length_setAt, Lev.length_setAt]
theorem len_putLevel (totals least : List Int) (done found : Nat) (level : Int) : (Lev.putLevel totals least done found level).length = totals.length := by
  unfold Lev.putLevel
  rw [len_fold_set _ (len_lower least found level), len_fold_set _ (fun c t => Lev.length_setAt level c t)]
section
variable {P : Program} {w : World} {K : PySem.W.Frag} {mg : Str → Option Value} {base : Heap}
abbrev sPutLevel : Stmt := top 20
abbrev nPutLevel : List Str := ["totals", "least", "done", "found", "level", "inside", "changed", "period"]
theorem scPutLevel : FnScope nPutLevel ["totals", "least", "done", "found", "level"] (defScope sPutLevel) := ⟨rfl, rfl, rfl, by decide +kernel, rfl, by decide +kernel, by decide +kernel⟩
def spPutLevel : Sp := fun vs H Q _ => ∃ (p q : Addr) (totals least : List Int) (done found : Nat) (level : Int), vs = [.ref p, .ref q, .int done, .int found, .int level] ∧ LI H p totals ∧ LI H q least ∧ totals.length ≤ 8 ∧ least.length = 2 ^ totals.length ∧ done ≤ found ∧
  ∀ (r : Addr) (H' : Hp), Same H H' → LI H' r (Lev.putLevel totals least done found level) → Q (.ref r) H'
theorem ok_putLevel {f : Addr} {fd : FuncData} (F : Fun K "put_level" "put_level" sPutLevel f fd) (B : Bi mg) (C : Cal P w K mg base 1 "holds" ["part", "period"] spHolds) (C2 : Cal P w K mg base 2 "can_hold" ["totals", "least", "found"] spCanHold) :
    FnOk P w K mg base CX0 3 f fd ["totals", "least", "done", "found", "level"] spPutLevel := by
  refine F.ok scPutLevel (fun vs H Q E h => ?_) (fun cdv A outer s H vs Q E hr h => ?_)
  · obtain ⟨a, b, c, d, e, g, i, rfl, _⟩ := h
    rfl
  · obtain ⟨p, q, totals, least, done, found, level, rfl, hp, hq, hl, hz, hle, k⟩ := h
    have nd := scPutLevel.nd
    have hr1 : Room 1 _ := hr.mono (by decide : 1 ≤ 2)
    refine ⟨_, pss_cons (ps_setLc (i := 5) (own := [("period", 7)]) rfl nd rfl rfl (sw_true rfl rfl rfl (by decide +kernel)) (pi_range1 rfl B.range (pa_cons (pe_callB call_len_seq rfl B.len bt_len (pa_cons (pv 0) pa_nil)) pa_nil))
          (blkOk_by (show blkC nPutLevel (defScope sPutLevel) _ _ = true by decide +kernel)) (fun _ _ _ _ _ => pg_name (i := 7) nd rfl (Or.inl rfl))
          (fun _ _ _ _ _ => pts_one (pt_cmp (pc_eqI (pcall C hr1 rfl (pa_cons (pe_op op_sub (pv 3) (pv 2)) (pa_cons (pv 7) pa_nil))) pe_int))) (fun _ _ _ _ _ => pv 7))
      (pss_cons (ps_set (i := 6) nd rfl (Or.inl rfl) (pe_callTy call_list_of rfl B.list bt_list (pa_cons (pv 0) pa_nil)))
      (pss_cons (ps_for PassesOwn.never rfl (pi_list (pv 5)) (pg_name (i := 7) nd rfl (Or.inl rfl)) (pss_one (ps_asg (pv 4) (pg_sub (pv 6) (pv 7) set_list))))
      (pss_cons (ps_for PassesOwn.never rfl (pi_list (pv 5)) (pg_name (i := 7) nd rfl (Or.inl rfl)) (pss_cons (ps_asg (pe_op op_sub (pv 4) pe_int) (pg_sub (pv 6) (pv 7) set_list))
        (pss_one (ps_if (pt_not (pt_val (pcall C2 hr rfl (pa_cons (pv 6) (pa_cons (pv 1) (pa_cons (pv 3) pa_nil)))))) (pss_one (ps_asg (pv 4) (pg_sub (pv 6) (pv 7) set_list))) pss_nil))))
      (pss_one (ps_ret (pv 6)))))), ?_⟩
    have hm : (((totals.map V.int).length : Nat) : Int).toNat = totals.length := by rw [List.length_map]; omega
    refine ⟨_, rfl, p, _, rfl, .inl (SqL.of hp), _, rfl, by omega, by rw [List.length_map]; omega, fun D hD => lcW hD wk_range (by rw [hm]; exact line_le (by omega)) (fun _ _ => trivial) (fun i => if (found - done).testBit i = true then some (V.int ((i : Nat) : Int)) else none) ?_ ?_⟩
    · rintro i x H' Q' N hi s1 hx k1 k2
      rw [Int.zero_add] at hx
      subst hx
      refine ⟨rfl, ?_⟩
      refine pvI pvVar pvVar _ (pvVar (v := V.int (i : Int)) rfl _ ?_)
      have e : (found : Int) - (done : Int) = ((found - done : Nat) : Int) := by omega
      refine ⟨found - done, i, by rw [e]; rfl, ?_⟩
      refine ⟨_, _, rfl, rfl, _, rfl, ?_⟩
      exact bit_if (fun hb => ⟨_, rfl, k1 _ _ (by rw [if_pos hb]) (Same.refl _)⟩) (fun hb => k2 _ (by rw [hb]; rfl) (Same.refl _))
    · intro H1 s1 h1
      rw [hm, inside_fm] at h1
      refine ⟨_, rfl, p, _, rfl, .inl (SqL.of (s1 _ _ hp)), fun l hl0 => ?_⟩
      have s2 : Same H (upd H1 l (.lst (totals.map V.int))) := Sm.add s1 hl0
      have hlH : H l = none := s1.free hl0
      have hDl : D ≠ l := ne_of_none h1 hl0
      have hLt : ∀ t ∈ Lev.insideOf totals.length found done, t < totals.length := fun t ht => List.mem_range.mp (List.mem_filter.mp ht).1
      generalize hL : Lev.insideOf totals.length found done = L at h1 hLt
      refine ⟨_, rfl, D, rfl, ⟨_, SqL.of (Sm.one hl0 _ _ h1)⟩, forW wk_list (fun i σ H' => ∃ (v : Option V) (c : List Int), σ = [some (.ref p), some (.ref q), some (.int done), some (.int found), some (.int level), some (.ref D), some (.ref l), v] ∧
          Same H H' ∧ H' D = some (.lst (L.map fun t : Nat => V.int (t : Int))) ∧ LI H' l c ∧ c = (L.take i).foldl (fun c t => Vbemat.setAt level t c) totals)
        ⟨none, totals, rfl, s2, Sm.one hl0 _ _ h1, upd_same, rfl⟩ (fun _ _ _ _ ⟨_, _, _, _, h, _⟩ => SqL.of h) ?_ ?_⟩
      · rintro i x σ H2 H3 hi ⟨v, c, rfl, s3, hD3, hc, ec⟩ s4 hx
        obtain ⟨t, ht, rfl⟩ := nat_at hx
        have hcl : c.length = totals.length := by rw [ec, len_fold_set _ (fun c t => Lev.length_setAt level c t)]
        have htl := hLt t (List.mem_of_getElem? ht)
        refine ⟨_, rfl, _, rfl, _, rfl, l, _, _, t, rfl, rfl, s4 _ _ hc, ixN_nat (by rw [List.length_map]; omega), ?_⟩
        refine ⟨_, Vbemat.setAt level t c, rfl, Sm.over (s3.trans s4) hlH, ?_, ?_, ?_⟩
        · rw [upd_ne hDl]; exact s4 _ _ hD3
        · exact upd_same.trans (by rw [set_at])
        · rw [take_snoc ht, List.foldl_append, ← ec]; rfl
      · rintro σ H2 ⟨v, c, rfl, s3, hD3, hc, ec⟩
        rw [List.length_map, List.take_length] at ec
        refine ⟨_, rfl, D, rfl, ⟨_, SqL.of hD3⟩, forW wk_list (fun i σ H' => ∃ (v : Option V) (c2 : List Int), σ = [some (.ref p), some (.ref q), some (.int done), some (.int found), some (.int level), some (.ref D), some (.ref l), v] ∧
            Same H H' ∧ H' D = some (.lst (L.map fun t : Nat => V.int (t : Int))) ∧ LI H' l c2 ∧ c2 = (L.take i).foldl (Lev.lower least found level) c)
          ⟨v, c, rfl, s3, hD3, hc, rfl⟩ (fun _ _ _ _ ⟨_, _, _, _, h, _⟩ => SqL.of h) ?_ ?_⟩
        · rintro i x σ H4 H5 hi ⟨v, c2, rfl, s5, hD5, hc5, ec5⟩ s6 hx
          obtain ⟨t, ht, rfl⟩ := nat_at hx
          have hcl : c2.length = totals.length := by rw [ec5, len_fold_set _ (len_lower least found level), ec, len_fold_set _ (fun c t => Lev.length_setAt level c t)]
          have htl := hLt t (List.mem_of_getElem? ht)
          refine ⟨_, rfl, _, _, rfl, rfl, _, rfl, _, rfl, l, _, _, t, rfl, rfl, s6 _ _ hc5, ixN_nat (by rw [List.length_map]; omega), ?_⟩
          have s7 : Same H (upd H5 l (.lst ((c2.map V.int).set t (.int (level - 1))))) := Sm.over (s5.trans s6) hlH
          have hl7 : LI (upd H5 l (.lst ((c2.map V.int).set t (.int (level - 1))))) l (Vbemat.setAt (level - 1) t c2) := upd_same.trans (by rw [set_at])
          have hD7 : (upd H5 l (.lst ((c2.map V.int).set t (.int (level - 1))))) D = some (.lst (L.map fun t : Nat => V.int (t : Int))) := by rw [upd_ne hDl]; exact s6 _ _ hD5
          have hlen7 : (Vbemat.setAt (level - 1) t c2).length = totals.length := by rw [Lev.length_setAt]; exact hcl
          refine ⟨_, rfl, _, rfl, _, rfl, l, q, _, least, found, rfl, hl7, s7 _ _ hq, by omega, by rw [hlen7]; exact hz, fun H8 s8 => ?_⟩
          refine ⟨_, rfl, ?_⟩
          cases hb : Lev.canHold (Vbemat.setAt (level - 1) t c2) least found with
          | true =>
            refine iteF ?_
            refine ⟨_, _, rfl, s7.trans s8, s8 _ _ hD7, s8 _ _ hl7, ?_⟩
            rw [take_snoc ht, List.foldl_append, ← ec5]
            show _ = Lev.lower least found level c2 t
            unfold Lev.lower
            rw [if_pos hb]
          | false =>
            refine iteT ?_
            refine ⟨_, rfl, _, rfl, _, rfl, l, _, _, t, rfl, rfl, s8 _ _ hl7, ixN_nat (by rw [List.length_map]; omega), ?_⟩
            refine ⟨_, Vbemat.setAt level t (Vbemat.setAt (level - 1) t c2), rfl, Sm.over (s7.trans s8) hlH, ?_, ?_, ?_⟩
            · rw [upd_ne hDl]; exact s8 _ _ hD7
            · exact upd_same.trans (by rw [set_at])
            · rw [take_snoc ht, List.foldl_append, ← ec5]
              show _ = Lev.lower least found level c2 t
              unfold Lev.lower
              rw [if_neg (by rw [hb]; exact Bool.false_ne_true)]
        · rintro σ H4 ⟨v, c2, rfl, s5, hD5, hc5, ec5⟩
          rw [List.length_map, List.take_length] at ec5
          refine ⟨_, rfl, k l H4 s5 ?_⟩
          have e : c2 = Lev.putLevel totals least done found level := by
            rw [ec5, ec]; unfold Lev.putLevel; rw [hL]
          rw [← e]; exact hc5
end
end Hs
end
section
set_option Elab.async false
set_option maxRecDepth 100000
set_option maxHeartbeats 2000000
namespace Hs
open PySem PySem.Spec
open PyProof.Rows hiding St
open L2
structure HS where
  begun : Bool
  bases : List Int
  needs : List Int
  rooms : List (List Int)
  passed : Int
structure HAd where
  dx : Addr
  pb : Addr
  pn : Addr
  pr : Addr
  rs : List Addr
def hfs (b : Bool) (pb pn pr : Addr) (k : Int) : List (Str × V) := [("begun", .bl b), ("bases", .ref pb), ("needs", .ref pn), ("rooms", .ref pr), ("passed", .int k)]
theorem hf_begun (b : Bool) (pb pn pr : Addr) (k : Int) : (hfs b pb pn pr k).lookup ("begun" : Str) = some (V.bl b) := rfl
theorem hf_bases (b : Bool) (pb pn pr : Addr) (k : Int) : (hfs b pb pn pr k).lookup ("bases" : Str) = some (V.ref pb) := rfl
theorem hf_needs (b : Bool) (pb pn pr : Addr) (k : Int) : (hfs b pb pn pr k).lookup ("needs" : Str) = some (V.ref pn) := rfl
theorem hf_rooms (b : Bool) (pb pn pr : Addr) (k : Int) : (hfs b pb pn pr k).lookup ("rooms" : Str) = some (V.ref pr) := rfl
theorem hf_passed (b : Bool) (pb pn pr : Addr) (k : Int) : (hfs b pb pn pr k).lookup ("passed" : Str) = some (V.int k) := rfl
structure HAt (C : Addr) (H : Hp) (a : Addr) (d : HAd) (h : HS) : Prop where
  ins : H a = some (.ins C d.dx (hfs h.begun d.pb d.pn d.pr h.passed))
  b : LI H d.pb h.bases
  n : LI H d.pn h.needs
  r : H d.pr = some (.lst (d.rs.map V.ref))
  rl : d.rs.length = h.rooms.length
  rows : ∀ (j : Nat) (p : Addr) (row : List Int), d.rs[j]? = some p → h.rooms[j]? = some row → LI H p row
  bn : d.pb ≠ d.pn
  br : d.pb ≠ d.pr
  nr : d.pn ≠ d.pr
  ns : d.pb ∉ d.rs ∧ d.pn ∉ d.rs ∧ d.pr ∉ d.rs
theorem HAt.same {C : Addr} {H H' : Hp} {a : Addr} {d : HAd} {h : HS} (x : HAt C H a d h) (s : Same H H') : HAt C H' a d h :=
  ⟨s _ _ x.ins, s _ _ x.b, s _ _ x.n, s _ _ x.r, x.rl, fun j p row h1 h2 => s _ _ (x.rows j p row h1 h2), x.bn, x.br, x.nr, x.ns⟩
def loadsOf (h : HS) : List Vbemat.Load := (h.needs.zip h.rooms).map fun y => ⟨y.1, y.2⟩
structure HGood (h : HS) : Prop where
  good : Lev.Good h.bases.length h.bases (loadsOf h)
  same : h.needs.length = h.rooms.length
  new : h.begun = false → h.needs = []
  pas : 0 ≤ h.passed
theorem HGood.b8 {h : HS} (g : HGood h) : h.bases.length ≤ 8 := g.good.n8
theorem HGood.len {h : HS} (g : HGood h) : (loadsOf h).length = h.needs.length := by
  unfold loadsOf
  rw [List.length_map, List.length_zip, g.same]
  omega
theorem HGood.n8 {h : HS} (g : HGood h) : h.needs.length ≤ 8 := by rw [← g.len]; exact g.good.l8
theorem loads_at {h : HS} {i : Nat} {need : Int} {row : List Int} (h1 : h.needs[i]? = some need) (h2 : h.rooms[i]? = some row) : (loadsOf h)[i]? = some ⟨need, row⟩ := by
  unfold loadsOf
  have e : (h.needs.zip h.rooms)[i]? = some (need, row) := List.getElem?_zip_eq_some.mpr ⟨h1, h2⟩
  rw [List.getElem?_map, e]
  rfl
theorem HGood.row {h : HS} (g : HGood h) {i : Nat} {row : List Int} (h2 : h.rooms[i]? = some row) : row.length = h.bases.length := by
  have hi : i < h.needs.length := by rw [g.same]; exact (List.getElem?_eq_some_iff.mp h2).1
  exact (g.good.ld _ (List.mem_of_getElem? (loads_at (List.getElem?_eq_getElem hi) h2))).1
structure HC (K : PySem.W.Frag) (C : Addr) : Prop where
  cl : Cls K C
  begun : NoAttr K C "begun"
  bases : NoAttr K C "bases"
  needs : NoAttr K C "needs"
  rooms : NoAttr K C "rooms"
  passed : NoAttr K C "passed"
section
variable {P : Program} {w : World} {K : PySem.W.Frag} {mg : Str → Option Value} {base : Heap} {C : Addr}
theorem pvBases {ta : TE} {σ : St} {H : Hp} {a : Addr} {d : HAd} {h : HS} (T : HC K C) (x : HAt C H a d h) (h1 : PvE ta σ H (.ref a)) : PvE (tFld K ta "bases") σ H (.ref d.pb) := pvFld h1 x.ins T.cl T.bases (hf_bases ..)
theorem pvNeeds {ta : TE} {σ : St} {H : Hp} {a : Addr} {d : HAd} {h : HS} (T : HC K C) (x : HAt C H a d h) (h1 : PvE ta σ H (.ref a)) : PvE (tFld K ta "needs") σ H (.ref d.pn) := pvFld h1 x.ins T.cl T.needs (hf_needs ..)
theorem pvRooms {ta : TE} {σ : St} {H : Hp} {a : Addr} {d : HAd} {h : HS} (T : HC K C) (x : HAt C H a d h) (h1 : PvE ta σ H (.ref a)) : PvE (tFld K ta "rooms") σ H (.ref d.pr) := pvFld h1 x.ins T.cl T.rooms (hf_rooms ..)
theorem pvBegun {ta : TE} {σ : St} {H : Hp} {a : Addr} {d : HAd} {h : HS} (T : HC K C) (x : HAt C H a d h) (h1 : PvE ta σ H (.ref a)) : PvE (tFld K ta "begun") σ H (.bl h.begun) := pvFld h1 x.ins T.cl T.begun (hf_begun ..)
theorem pvPassed {ta : TE} {σ : St} {H : Hp} {a : Addr} {d : HAd} {h : HS} (T : HC K C) (x : HAt C H a d h) (h1 : PvE ta σ H (.ref a)) : PvE (tFld K ta "passed") σ H (.int h.passed) := pvFld h1 x.ins T.cl T.passed (hf_passed ..)
theorem rep_flat (c : Int) : ∀ n : Nat, (List.replicate n [V.int c]).flatten = (List.replicate n c).map V.int
  | 0 => rfl
  | n + 1 => by rw [List.replicate_succ, List.flatten_cons, rep_flat c n, List.replicate_succ, List.map_cons]; rfl
theorem rep_rd {tb : TE} {σ : St} {H : Hp} {Q : VK} {c : Int} {n : Nat} (hn : n ≤ 8) (hb : ∀ H', Same H H' → PvE tb σ H' (.int (n : Nat))) (k : ∀ q H', Same H H' → LI H' q (List.replicate n c) → Q (.ref q) H') :
    tOp rRep (tLst (tCons (tC (.int c)) tNil)) tb σ H Q := by
  refine ⟨(by show 1 ≤ sizeLine; decide), fun l hl => ?_⟩
  refine hb _ (Sm.one hl) _ ⟨l, (n : Int), _, rfl, rfl, upd_same, by omega, by omega, ?_, fun p hp => k p _ (Sm.add (Sm.one hl) hp) ?_⟩
  · rw [Int.toNat_natCast]; exact line_le (by show 1 * n ≤ 100000; omega)
  · rw [Int.toNat_natCast, rep_flat]; exact upd_same
theorem fm_zip (f : Nat → Option V) (g : Int → Int → Int) {xs ys : List Int} (h : ∀ i x y, xs[i]? = some x → ys[i]? = some y → f i = some (.int (g x y))) :
    (List.range (min xs.length ys.length)).filterMap f = ((xs.zip ys).map fun z => g z.1 z.2).map V.int := by
  have e : (List.range (min xs.length ys.length)).filterMap f = (List.range (min xs.length ys.length)).map fun i => V.int (g ((xs[i]?).getD 0) ((ys[i]?).getD 0)) := by
    rw [← fm_some]
    refine fm_congr fun i hi => ?_
    have hi : i < min xs.length ys.length := List.mem_range.mp hi
    have e1 : xs[i]? = some (xs[i]'(by omega)) := List.getElem?_eq_getElem (by omega)
    have e2 : ys[i]? = some (ys[i]'(by omega)) := List.getElem?_eq_getElem (by omega)
    rw [h i _ _ e1 e2, e1, e2]; rfl
  rw [e]
  refine List.ext_getElem? fun i => ?_
  by_cases hi : i < min xs.length ys.length
  · have h1 : i < xs.length := by omega
    have h2 : i < ys.length := by omega
    simp [List.getElem?_zip_eq_some, h1, h2, hi]
  · have h1 : ¬ i < (xs.zip ys).length := by rw [List.length_zip]; exact hi
    simp [hi, h1]
theorem zipLc {a b D : Addr} {xs ys : List Int} {i j : Nat} {te : TE} {vs : List Nat} {σ : St} {H1 : Hp} {Qd : Hp → Prop} (hD : H1 D = none) (ha : LI H1 a xs) (hb : LI H1 b ys) (hl : xs.length ≤ 100000) (g : Int → Int → Int)
    (hw : ∀ x y : Option V, wipe (((wipe σ vs).set i x).set j y) vs = wipe σ vs)
    (he : ∀ x y H', Same H1 H' → PvE te (((wipe σ vs).set i (some (.int x))).set j (some (.int y))) H' (.int (g x y)))
    (fin : ∀ H', Same H1 H' → LI H' D ((xs.zip ys).map fun z => g z.1 z.2) → Qd H') :
    ∃ W : Nat → Nat → Hp → Prop, (∃ m, W 0 m (upd H1 D (.lst []))) ∧ ∀ n m H, W n m H →
      ((Itz K a b).stop n H ∧ Qd H) ∨ ((Itz K a b).go n H ∧ ∃ Nx : Hp → Prop, (∀ H', Nx H' → ∃ m', m' < m ∧ W (n + 1) m' H') ∧ ∀ x H', (Itz K a b).yld n H x H' → gTup K 2 (gCons (gName i) (gCons (gName j) gNil)) x (wipe σ vs) H' fun σ2 H2 => wipe σ2 vs = wipe σ vs ∧ tYes σ2 H2 fun b H3 =>
        if b = true then te σ2 H3 fun y H4 => ∃ acc, H4 D = some (.lst acc) ∧ acc.length < sizeLine ∧ Nx (upd H4 D (.lst (acc ++ [y]))) else Nx H3) := by
  refine lcW hD (wk_zip (xs := xs.map V.int) (ys := ys.map V.int)) (by simp only [List.length_map]; exact line_le (by omega)) (fun H' s => ⟨SqL.of (s _ _ ha), SqL.of (s _ _ hb)⟩) (fun k => (xs[k]?).bind fun x => (ys[k]?).map fun y => V.int (g x y)) ?_ ?_
  · rintro k x H' Q' N hk s1 ⟨T, x1, y1, rfl, hT, hx, hy⟩ k1 k2
    obtain ⟨u, hu, rfl⟩ := int_at hx
    obtain ⟨v, hv, rfl⟩ := int_at hy
    refine gPair hT ⟨hw _ _, ?_⟩
    exact iteT (B := N H') (he u v H' s1 _ (k1 _ _ (by rw [hu, hv]; rfl) (Same.refl _)))
  · intro H' s1 h1
    rw [List.length_map, List.length_map, fm_zip _ g (fun i x y hx hy => by rw [hx, hy]; rfl)] at h1
    exact fin H' s1 h1
abbrev sForcedSums : Stmt := top 13
abbrev nForcedSums : List Str := ["house", "forced", "need", "rooms", "before", "more"]
theorem scForcedSums : FnScope nForcedSums ["house"] (defScope sForcedSums) := ⟨rfl, rfl, rfl, by decide +kernel, rfl, by decide +kernel, by decide +kernel⟩
def spList (C : Addr) (g : HS → List Int) : Sp := fun vs H Q _ => ∃ (a : Addr) (d : HAd) (h : HS), vs = [.ref a] ∧ HAt C H a d h ∧ HGood h ∧ ∀ (q : Addr) (H' : Hp), Same H H' → LI H' q (g h) → Q (.ref q) H'
abbrev gForced (h : HS) : List Int := Lev.forcedSums h.bases.length (loadsOf h)
theorem addLists_len (a b : List Int) : (Lev.addLists a b).length = min a.length b.length := by unfold Lev.addLists; rw [List.length_map, List.length_zip]
theorem forcedBy_len (n : Int) (r : List Int) : (Lev.forcedBy n r).length = (Lev.setSums r).length := by unfold Lev.forcedBy; rw [List.length_map]
theorem ok_forcedSums {f : Addr} {fd : FuncData} (F : Fun K "forced_sums" "forced_sums" sForcedSums f fd) (B : Bi mg) (T : HC K C) (C1 : Cal P w K mg base 1 "set_sums" ["values"] spSetSums) (C2 : Cal P w K mg base 2 "forced_by" ["need", "rooms"] spForcedBy) :
    FnOk P w K mg base CX0 3 f fd ["house"] (spList C gForced) := by
  refine F.ok scForcedSums (fun vs H Q E h => ?_) (fun cdv A outer s H vs Q E hr h => ?_)
  · obtain ⟨a, d, h, rfl, _⟩ := h
    rfl
  · obtain ⟨a, d, h, rfl, x, hg, k⟩ := h
    have nd := scForcedSums.nd
    have hr1 : Room 1 _ := hr.mono (by decide : 1 ≤ 2)
    refine ⟨_, pss_cons (ps_set (i := 1) nd rfl (Or.inl rfl) (pcall C1 hr1 rfl (pa_cons (pe_op op_rep (pe_lst (pa_cons pe_int pa_nil)) (pe_callB call_len_seq rfl B.len bt_len (pa_cons (pe_fld (pv 0) rfl) pa_nil))) pa_nil)))
      (pss_cons (ps_for PassesOwn.never rfl (pi_zip rfl B.zip (pa_cons (pe_fld (pv 0) rfl) (pa_cons (pe_fld (pv 0) rfl) pa_nil))) (pg_pair (K := K) (i := 2) (j := 3) rfl rfl nd rfl rfl (Or.inl rfl) (Or.inl rfl))
        (pss_one (ps_setLc (i := 1) (own := [("before", 4), ("more", 5)]) rfl nd rfl rfl (sw_true rfl rfl rfl (by decide +kernel)) (pi_zip rfl B.zip (pa_cons (pv 1) (pa_cons (pcall C2 hr rfl (pa_cons (pv 2) (pa_cons (pv 3) pa_nil))) pa_nil)))
          (blkOk_by (show blkC nForcedSums (defScope sForcedSums) _ _ = true by decide +kernel)) (fun _ _ _ _ _ => pg_pair (K := K) (i := 4) (j := 5) rfl rfl nd rfl rfl (Or.inl rfl) (Or.inl rfl))
          (fun _ _ _ _ _ => pts_nil) (fun _ _ _ _ _ => pe_op op_add (pv 4) (pv 5)))))
      (pss_one (ps_ret (pv 1)))), ?_⟩
    refine rep_rd (n := h.bases.length) hg.b8 (fun H' s' => ?_) (fun q H1 s1 hq => ?_)
    · have z := pvLen (K := K) (pvBases T (x.same s') (ta := tVar 0) (σ := L2.start nForcedSums [V.ref a]) pvVar) (s' _ _ x.b)
      rw [List.length_map] at z
      exact z
    · refine ⟨q, _, rfl, hq, by rw [List.length_replicate]; exact hg.b8, fun q2 H2 s2 hq2 => ?_⟩
      have s12 := s1.trans s2
      have x2 := x.same s12
      refine ⟨_, rfl, a, C, _, _, _, rfl, x2.ins, T.cl, T.needs, hf_needs .., _, rfl, a, C, _, _, _, rfl, x2.ins, T.cl, T.rooms, hf_rooms .., ?_⟩
      refine ⟨d.pn, d.pr, _, _, rfl, SqL.of x2.n, SqL.of x2.r, forW wk_zip (fun i σ H' => ∃ (fa : Addr) (fl : List Int) (v2 v3 : Option V), σ = [some (.ref a), some (.ref fa), v2, v3, none, none] ∧ Same H H' ∧ LI H' fa fl ∧
          fl = ((loadsOf h).take i).foldl (fun f y => Lev.addLists f (Lev.forcedBy y.need y.rooms)) (Lev.setSums (List.replicate h.bases.length 0)) ∧ fl.length ≤ 256)
        ⟨q2, _, none, none, rfl, s12, hq2, rfl, setSums_small (by rw [List.length_replicate]; exact hg.b8)⟩ (fun _ _ H' _ ⟨_, _, _, _, _, s, _⟩ => ⟨SqL.of (x.same s).n, SqL.of (x.same s).r⟩) ?_ ?_⟩
      · rintro i y σ H3 H4 hi ⟨fa, fl, v2, v3, rfl, s3, hfa, efl, hfl⟩ s4 ⟨T2, y1, y2, rfl, hT, hy1, hy2⟩
        obtain ⟨need, hneed, rfl⟩ := int_at hy1
        rw [List.getElem?_map] at hy2
        obtain ⟨rp, hrp, rfl⟩ : ∃ rp, d.rs[i]? = some rp ∧ y2 = V.ref rp := by
          cases e : d.rs[i]? with
          | none => rw [e] at hy2; cases hy2
          | some z => rw [e] at hy2; exact ⟨z, rfl, (Option.some.inj hy2).symm⟩
        have hir : i < h.rooms.length := by rw [← x.rl]; exact (List.getElem?_eq_some_iff.mp hrp).1
        obtain ⟨row, hrow⟩ : ∃ row, h.rooms[i]? = some row := ⟨_, List.getElem?_eq_getElem hir⟩
        have x4 := x.same (s3.trans s4)
        refine gPair hT ?_
        refine ⟨_, rfl, _, rfl, _, rfl, need, rp, row, rfl, x4.rows i rp row hrp hrow, by rw [hg.row hrow]; exact hg.b8, fun q5 H5 s5 hq5 => ?_⟩
        refine ⟨fa, q5, _, _, rfl, SqL.of (s5 _ _ (s4 _ _ hfa)), SqL.of hq5, fun D hD => zipLc hD (s5 _ _ (s4 _ _ hfa)) hq5 (by omega) (fun x y => x + y) (fun _ _ => rfl) (fun x y H' s' => pvI pvVar pvVar) (fun H6 s6 h6 => ?_)⟩
        refine ⟨D, _, _, _, rfl, (s3.trans s4).trans (s5.trans s6), h6, ?_, ?_⟩
        · rw [take_snoc (loads_at hneed hrow), List.foldl_append, ← efl]; rfl
        · rw [List.length_map, List.length_zip]; omega
      · rintro σ H3 ⟨fa, fl, v2, v3, rfl, s3, hfa, efl, hfl⟩
        refine ⟨_, rfl, k fa H3 s3 ?_⟩
        have e : (loadsOf h).take (min (h.needs.map V.int).length (d.rs.map V.ref).length) = loadsOf h := by
          rw [List.length_map, List.length_map, x.rl, ← hg.same, Nat.min_self, ← hg.len, List.take_length]
        rw [e] at efl
        have e2 : fl = gForced h := efl
        rw [← e2]; exact hfa
end
end Hs
end
section
set_option Elab.async false
set_option linter.all false
set_option maxRecDepth 100000
set_option maxHeartbeats 2000000
namespace Hs
open PySem PySem.Spec
open PyProof.Rows hiding St
open L2
theorem whileP {c : TT} {tb : TS} {D : Ends} {σ : St} {H : Hp} (Pv : Nat → St → Hp → Prop) (h0 : ∃ m, Pv m σ H)
    (hs : ∀ m σ H, Pv m σ H → ∃ b, PvT c σ H b ∧ (b = true → tb { D with nx := fun σ' H' => ∃ m', m' < m ∧ Pv m' σ' H', ct := fun σ' H' => ∃ m', m' < m ∧ Pv m' σ' H', bk := D.nx } σ H) ∧ (b = false → D.nx σ H)) : tWhile c tb D σ H := by
  refine ⟨Pv, h0, fun m σ H p => ?_⟩
  obtain ⟨b, hb, h1, h2⟩ := hs m σ H p
  refine hb _ ?_
  cases b with
  | true => exact iteT ⟨_, fun σ' H' z => z, h1 rfl⟩
  | false => exact iteF (h2 rfl)
section
variable {P : Program} {w : World} {K : PySem.W.Frag} {mg : Str → Option Value} {base : Heap} {C : Addr}
abbrev sLeast : Stmt := top 14
abbrev nLeast : List Str := ["house", "forced", "base"]
theorem scLeast : FnScope nLeast ["house"] (defScope sLeast) := ⟨rfl, rfl, rfl, by decide +kernel, rfl, by decide +kernel, by decide +kernel⟩
abbrev gLeast (h : HS) : List Int := Lev.leastOf h.bases (loadsOf h)
theorem HGood.forced_tells {h : HS} (g : HGood h) : Lev.Tells h.bases.length (gForced h) (Vbemat.forced (loadsOf h)) := Lev.forcedSums_tells _ fun y hy => (g.good.ld y hy).1
theorem HGood.least_tells {h : HS} (g : HGood h) : Lev.Tells h.bases.length (gLeast h) (Lev.gT h.bases.length h.bases (Vbemat.forced (loadsOf h))) := Lev.leastOf_tells g.good
theorem card_small (p : Nat) : ∀ n : Nat, 0 ≤ Lev.card p n ∧ Lev.card p n ≤ n
  | 0 => ⟨Int.le_refl _, Int.le_refl _⟩
  | n + 1 => by
    have ih := card_small p n
    have e : Lev.card p (n + 1) = Lev.card p n + (if p.testBit n = true then 1 else 0) := rfl
    rw [e]
    split <;> omega
theorem pow8 {n : Nat} (h : n ≤ 8) : 2 ^ n ≤ 256 := Nat.pow_le_pow_right (by decide) h
theorem ok_least {f : Addr} {fd : FuncData} (F : Fun K "least_sums" "least_sums" sLeast f fd) (B : Bi mg) (T : HC K C) (C1 : Cal P w K mg base 1 "set_sums" ["values"] spSetSums) (C2 : Cal P w K mg base 3 "forced_sums" ["house"] (spList C gForced)) :
    FnOk P w K mg base CX0 4 f fd ["house"] (spList C gLeast) := by
  refine F.ok scLeast (fun vs H Q E h => ?_) (fun cdv A outer s H vs Q E hr h => ?_)
  · obtain ⟨a, d, h, rfl, _⟩ := h
    rfl
  · obtain ⟨a, d, h, rfl, x, hg, k⟩ := h
    have nd := scLeast.nd
    have hr1 : Room 1 _ := hr.mono (by decide : 1 ≤ 3)
    refine ⟨_, pss_one (ps_ret (pe_lc (own := [("forced", 1), ("base", 2)]) rfl nd (pi_zip rfl B.zip (pa_cons (pcall C2 hr rfl (pa_cons (pv 0) pa_nil)) (pa_cons (pcall C1 hr1 rfl (pa_cons (pe_fld (pv 0) rfl) pa_nil)) pa_nil)))
      (blkOk_by (show blkC nLeast (defScope sLeast) _ _ = true by decide +kernel)) (fun _ _ _ _ _ => pg_pair (K := K) (i := 1) (j := 2) rfl rfl nd rfl rfl (Or.inl rfl) (Or.inl rfl)) (fun _ _ _ _ _ => pts_nil) (fun _ _ _ _ _ => pe_op op_add (pv 1) (pv 2)))), ?_⟩
    refine ⟨_, rfl, a, d, h, rfl, x, hg, fun q1 H1 s1 hq1 => ⟨_, rfl, a, C, _, _, _, rfl, (x.same s1).ins, T.cl, T.bases, hf_bases .., d.pb, h.bases, rfl, (x.same s1).b, hg.b8, fun q2 H2 s2 hq2 => ?_⟩⟩
    have hl : (gForced h).length ≤ 256 := by rw [hg.forced_tells.1]; exact pow8 hg.b8
    exact ⟨q1, q2, _, _, rfl, SqL.of (s2 _ _ hq1), SqL.of hq2, fun D hD => zipLc hD (s2 _ _ hq1) hq2 (by omega) (fun x y => x + y) (fun _ _ => rfl) (fun x y H' s' => pvI pvVar pvVar) (fun H6 s6 h6 => k D H6 (s1.trans (s2.trans s6)) h6)⟩
abbrev sTotals : Stmt := top 21
abbrev nTotals : List Str := ["house", "totals", "sizes", "least", "done", "level", "found"]
theorem scTotals : FnScope nTotals ["house"] (defScope sTotals) := ⟨rfl, rfl, rfl, by decide +kernel, rfl, by decide +kernel, by decide +kernel⟩
abbrev gTotals (h : HS) : List Int := Lev.totalsOf h.bases (loadsOf h)
theorem ok_totals {f : Addr} {fd : FuncData} (F : Fun K "plan_totals" "plan_totals" sTotals f fd) (B : Bi mg) (T : HC K C) (C1 : Cal P w K mg base 1 "set_sums" ["values"] spSetSums) (C2 : Cal P w K mg base 4 "least_sums" ["house"] (spList C gLeast))
    (C3 : Cal P w K mg base 2 "next_level" ["least", "sizes", "done"] spNextLevel) (C4 : Cal P w K mg base 1 "next_done" ["least", "sizes", "done", "level"] spNextDone) (C5 : Cal P w K mg base 3 "put_level" ["totals", "least", "done", "found", "level"] spPutLevel) :
    FnOk P w K mg base CX0 5 f fd ["house"] (spList C gTotals) := by
  refine F.ok scTotals (fun vs H Q E h => ?_) (fun cdv A outer s H vs Q E hr h => ?_)
  · obtain ⟨a, d, h, rfl, _⟩ := h
    rfl
  · obtain ⟨a, d, h, rfl, x, hg, k⟩ := h
    have nd := scTotals.nd
    have hr1 : Room 1 _ := hr.mono (by decide : 1 ≤ 4)
    have hr2 : Room 2 _ := hr.mono (by decide : 2 ≤ 4)
    have hr3 : Room 3 _ := hr.mono (by decide : 3 ≤ 4)
    refine ⟨_, pss_cons (ps_set (i := 1) nd rfl (Or.inl rfl) (pe_op op_rep (pe_lst (pa_cons pe_int pa_nil)) (pe_callB call_len_seq rfl B.len bt_len (pa_cons (pe_fld (pv 0) rfl) pa_nil))))
      (pss_cons (ps_set (i := 2) nd rfl (Or.inl rfl) (pcall C1 hr1 rfl (pa_cons (pe_op op_rep (pe_lst (pa_cons pe_int pa_nil)) (pe_callB call_len_seq rfl B.len bt_len (pa_cons (pe_fld (pv 0) rfl) pa_nil))) pa_nil)))
      (pss_cons (ps_set (i := 3) nd rfl (Or.inl rfl) (pcall C2 hr rfl (pa_cons (pv 0) pa_nil)))
      (pss_cons (ps_set (i := 4) nd rfl (Or.inl rfl) pe_int)
      (pss_cons (ps_while PassesOwn.never (pt_cmp (pc_lt (pv 4) (pe_op op_sub (pe_callB call_len_seq rfl B.len bt_len (pa_cons (pv 3) pa_nil)) pe_int)))
        (pss_cons (ps_set (i := 5) nd rfl (Or.inl rfl) (pcall C3 hr2 rfl (pa_cons (pv 3) (pa_cons (pv 2) (pa_cons (pv 4) pa_nil)))))
        (pss_cons (ps_set (i := 6) nd rfl (Or.inl rfl) (pcall C4 hr1 rfl (pa_cons (pv 3) (pa_cons (pv 2) (pa_cons (pv 4) (pa_cons (pv 5) pa_nil))))))
        (pss_cons (ps_set (i := 1) nd rfl (Or.inl rfl) (pcall C5 hr3 rfl (pa_cons (pv 1) (pa_cons (pv 3) (pa_cons (pv 4) (pa_cons (pv 6) (pa_cons (pv 5) pa_nil)))))))
        (pss_one (ps_set (i := 4) nd rfl (Or.inl rfl) (pv 6)))))))
      (pss_one (ps_ret (pv 1))))))), ?_⟩
    have hb8 := hg.b8
    generalize hn : h.bases.length = n at hb8
    have lenE : ∀ (σ : St) (H' : Hp), Same H H' → σ[0]? = some (some (.ref a)) → PvE (tCB (fun vs H Q => ∃ p ys, vs = [.ref p] ∧ (SqL K H p ys ∨ SqT K H p ys) ∧ Q (.int ys.length) H) (tCons (tFld K (tVar 0) "bases") tNil)) σ H' (.int (n : Nat)) := fun σ H' s' hσ => by
      have z := pvLen (K := K) (pvBases T (x.same s') (ta := tVar 0) (σ := σ) (pvVar hσ)) (s' _ _ x.b)
      rw [List.length_map, hn] at z
      exact z
    refine rep_rd (n := n) hb8 (fun H' s' => lenE _ H' s' rfl) (fun tp H1 s1 htp => ?_)
    refine rep_rd (n := n) hb8 (fun H' s' => lenE _ H' (s1.trans s') rfl) (fun op H2 s2 hop => ?_)
    refine ⟨op, _, rfl, hop, by rw [List.length_replicate]; exact hb8, fun sp H3 s3 hsp => ?_⟩
    refine ⟨_, rfl, a, d, h, rfl, x.same (s1.trans (s2.trans s3)), hg, fun lp H4 s4 hlp => ?_⟩
    have s14 := s1.trans (s2.trans (s3.trans s4))
    have htp4 := s4 _ _ (s3 _ _ (s2 _ _ htp))
    have hsp4 := s4 _ _ hsp
    have G := Lev.gT_super (base := h.bases) hg.good.sup
    have TT := hg.least_tells
    have ZZ := Lev.sizes_tells n
    have MM := Lev.gT_mono hg.good
    have hsz : (Lev.setSums (List.replicate n 1)).length = 2 ^ n := ZZ.1
    have h2n := pow8 hb8
    rw [hn] at G TT MM
    have hfin : gTotals h = Lev.planTotals n (gLeast h) := by show Lev.planTotals h.bases.length _ = _; rw [hn]
    generalize hgg : Lev.gT n h.bases (Vbemat.forced (loadsOf h)) = gg at G TT MM
    generalize hss : Lev.setSums (List.replicate n 1) = sizes at hsp4 ZZ hsz
    have hcard : ∀ i j, i < 2 ^ n → j < 2 ^ n → -(2 ^ 64) < Vbemat.nth sizes i - Vbemat.nth sizes j ∧ Vbemat.nth sizes i - Vbemat.nth sizes j < 1073741824 := fun i j hi hj => by
      have e1 : Vbemat.nth sizes i = Lev.card i n := ZZ.2 i hi
      have e2 : Vbemat.nth sizes j = Lev.card j n := ZZ.2 j hj
      have a1 := card_small i n
      have a2 := card_small j n
      omega
    refine whileP (fun m σ H' => ∃ (tq : Addr) (c : List Int) (done : Nat) (v5 v6 : Option V), σ = [some (.ref a), some (.ref tq), some (.ref sp), some (.ref lp), some (.int (done : Nat)), v5, v6] ∧ Same H H' ∧ LI H' tq c ∧ LI H' sp sizes ∧ LI H' lp (gLeast h) ∧
        Lev.Done n gg c done ∧ (∃ k, Lev.planLoop (gLeast h) sizes k c done = gTotals h ∧ 2 ^ n ≤ k + done + 1) ∧ m = 2 ^ n - done)
      ⟨_, tp, _, 0, none, none, rfl, s14, htp4, hsp4, hlp, Lev.done_start G, ⟨2 ^ n, by rw [hfin]; unfold Lev.planTotals; rw [hss], by omega⟩, rfl⟩ ?_
    rintro m σ H5 ⟨tq, c, done, v5, v6, rfl, s5, htq, hsp5, hlp5, DD, ⟨kk, ek, hk⟩, rfl⟩
    have hll : (gLeast h).length = 2 ^ n := TT.1
    refine ⟨_, pvCmp pvVar (pvI (pvLen pvVar hlp5) pvC), fun hb => ?_, fun hb => ?_⟩
    · rw [decide_eq_true_eq, List.length_map, hll] at hb
      have hd : done < 2 ^ n - 1 := by omega
      obtain ⟨l1, l2⟩ := Lev.level_spec TT ZZ MM hd
      obtain ⟨d1, d2, d3, d4⟩ := Lev.done_spec TT ZZ DD.lt l2
      have hle := d2.le
      refine ⟨_, rfl, _, rfl, _, rfl, lp, sp, gLeast h, sizes, done, rfl, hlp5, hsp5, by omega, by omega, by omega, fun i hi hne hand => ?_, fun H6 s6 => ?_⟩
      · have hi2 : i < 2 ^ n := by omega
        refine ⟨?_, (hcard i done hi2 DD.lt).2⟩
        have e1 : Vbemat.nth sizes i = Lev.card i n := ZZ.2 i hi2
        have e2 : Vbemat.nth sizes done = Lev.card done n := ZZ.2 done DD.lt
        have := Lev.card_lt (Lev.sub_iff'.mp hand) hi2 (fun e => hne e.symm)
        omega
      refine ⟨_, rfl, _, rfl, _, rfl, _, rfl, lp, sp, gLeast h, sizes, done, _, rfl, s6 _ _ hlp5, s6 _ _ hsp5, by omega, by omega, by omega, fun i hi => ?_, fun H7 s7 => ?_⟩
      · have z := hcard i done (by omega) DD.lt
        exact ⟨z.1, by omega⟩
      have s67 := s6.trans s7
      refine ⟨_, rfl, _, rfl, _, rfl, _, rfl, _, rfl, tq, lp, c, gLeast h, done, _, _, rfl, s67 _ _ htq, s67 _ _ hlp5, by rw [DD.len]; exact hb8, by rw [DD.len]; exact hll, hle, fun tr H8 s8 htr => ?_⟩
      have s68 := s67.trans s8
      refine ⟨_, rfl, ?_⟩
      refine ⟨_, ?_, tr, _, _, _, _, rfl, s5.trans s68, htr, s68 _ _ hsp5, s68 _ _ hlp5, Lev.done_step G TT DD d1 d2 l1 l2 d4, ?_, rfl⟩
      · omega
      · obtain ⟨kk, rfl⟩ : ∃ k', kk = k' + 1 := ⟨kk - 1, by omega⟩
        refine ⟨kk, ?_, by omega⟩
        rw [← ek]
        conv => rhs; unfold Lev.planLoop
        rw [if_pos (by rw [hll]; exact hd)]
    · rw [decide_eq_false_iff_not, List.length_map, hll] at hb
      have hd : ¬ done < (gLeast h).length - 1 := by rw [hll]; omega
      refine ⟨_, rfl, k tq H5 s5 ?_⟩
      rw [← ek]
      cases kk with
      | zero => exact htq
      | succ kk => unfold Lev.planLoop; rw [if_neg hd]; exact htq
end
end Hs
end
section
set_option Elab.async false
set_option linter.all false
set_option maxRecDepth 100000
set_option maxHeartbeats 2000000
namespace Hs
open PySem PySem.Spec
open PyProof.Rows hiding St
open L2
def CallKR (X : Cx) (f : Value) (ks : List Str) (r : List V → List V → Hp → VK → Prop) : Prop :=
  ∀ (pins : List (Addr × Obj)) (s : Shared) (σ : St) (H : Hp) (xs zs : List V) (us ws : List Value) (Q : VK), Inv X pins σ H s → Vals xs us → Vals zs ws → r xs zs H Q →
    wpAny (model X.prog X.w) X.A (call f us (ks.zip ws)) (EP X pins σ Q) X.xe s
def tCBK (r : List V → List V → Hp → VK → Prop) (t tk : TA) : TE := fun σ H Q => t σ H fun vs H1 => tk σ H1 fun zs H2 => r vs zs H2 Q
theorem pe_callBK {X : Cx} {x : Str} {p pos : Pos} {e : Expr} {es : List Expr} {kws : List Keyword} {t tk : TA} {id : String} {ks : List Str} {r : List V → List V → Hp → VK → Prop} (hc : CallKR X (.builtin id) ks r) (hg : Gl X x) (hm : X.mg x = none)
    (hv : bootBuiltins x = some (.builtin id)) (ha : PA X (e :: es) t) (hkw : PK X kws tk) (hn : x ≠ "__name__" := by decide) (hdb : (x == ("__debug__" : Str)) = false := by decide)
    (hks : (backToKw pos (keywordEach kws X.env)).filterMap (·.1) = ks := by rfl) (he : backTo pos (starEach (e :: es) X.env) = (false, eval e X.env) :: backTo pos (starEach es X.env) := by rfl)
    (hp1 : (backTo pos (starEach (e :: es) X.env)).any (·.1) = false := by rfl) (hp2 : (backToKw pos (keywordEach kws X.env)).all (·.1.isSome) = true := by rfl) (hp3 : (backToKw pos (keywordEach kws X.env)).any (·.1.isNone) = false := by rfl) :
    PE X (.Call (.Name x p) (e :: es) kws pos) (tCBK r t tk) := by
  intro pins s σ H Q I h
  refine wpAny_Call_Name_kw (ld_blt I hg hm hv ?_ hn hdb)
  refine PyProof.Rows.callWith_kw (thn (ha pos pins s σ H _ I h) fun us s1 ⟨vs, H1, I1, r1, q1⟩ => ?_) he hp1 hp2 hp3
  refine thn (hkw pos pins s1 σ H1 _ I1 q1) fun ws s2 ⟨zs, H2, I2, r2, q2⟩ => ?_
  rw [hks]
  exact hc pins s2 σ H2 vs zs us ws Q I2 r1 r2 q2
theorem nm_max : (toString "max" ++ toString ".loop" : String) = "max.loop" := by decide
theorem ar_maxd (a v : Value) : argsOk "max" ⟨[a], [(Str.ofString "default", v)]⟩ := by unfold argsOk; kernel_rfl
section
variable {prog : Program} {w : World} {A : Around} {E : Value → Shared → Prop} {s : Shared}
theorem maxd_turns {R : Result → Shared → Prop} {I : Addr} {fp wr : List Addr} {n : Nat} {Pq : Nat → Value → Prop} {Sq : Nat → Heap → Prop} {kw : List (Str × Value)} (W : Walks prog w A.in1 I fp wr n Pq Sq) (bt : Nat → Nat → Bool)
    (cmp : CmpOf prog w A.in1 .Gt Pq bt) (B : Addr) (nB : B ∉ fp) : ∀ (k j : Nat) (s : Shared) (top : Value) (c : Nat), n - (j + 1) = k → j + 1 ≤ n → Sq (j + 1) s.heap → Pq (argBest bt j) top →
    s.heap.get? B = some { cls := .type "list", dict := none, data := .seq #[top, top] c, slots := #[] } →
    (∀ v h' tk, Pq (argBest bt (n - 1)) v → (∀ b o, b ∉ wr → b ≠ B → s.heap.get? b = some o → h'.get? b = some o) → R (.ok (.ret v)) { s with heap := h', toks := tk }) →
    codeAny (model prog w) A (.builtin "max.loop" ⟨[.ref I, .none, .ref B], kw⟩) R s := by
  have nBw : B ∉ wr := fun z => nB (W.sub _ z)
  intro k
  induction k with
  | zero =>
    intro j s top c ek lj st pt gB fin
    have ej : j + 1 = n := by omega
    refine codeAny_builtin PySem.F.entry_max_loop ?_
    rw [Around.under_plainId PySem.F.plain_max_loop _]
    show wpAny _ A.in1 (seqItems? (.ref B) >>= _) _ _ s
    refine wpAny_bind (wpAny_seqItems gB rfl ?_)
    show wpAny _ A.in1 (tryCatch (pyNext (.ref I)) _ >>= _) _ _ s
    refine wpAny_bind (wpAny_tryCatch (W.done s _ _ (ej ▸ st) fun h' tk kp => ?_))
    have gB' := kp B _ nBw gB
    show wpAny _ A.in1 (updateSeq B (fun _ => #[]) >>= _) _ _ _
    refine wpAny_bind ?_
    refine wpAny_updateSeq gB' rfl (wpAny_bind (wpAny_letGo (wpAny_pure ?_)))
    exact fin top _ tk (by rw [← ej]; exact pt) fun b o hb1 hb2 e => (Heap.get?_update_other _ _ (Ne.symm hb2)).trans (kp b o hb1 e)
  | succ k ih =>
    intro j s top c ek lj st pt gB fin
    have lt : j + 1 < n := by omega
    refine codeAny_builtin PySem.F.entry_max_loop ?_
    rw [Around.under_plainId PySem.F.plain_max_loop _]
    show wpAny _ A.in1 (seqItems? (.ref B) >>= _) _ _ s
    refine wpAny_bind (wpAny_seqItems gB rfl ?_)
    show wpAny _ A.in1 (tryCatch (pyNext (.ref I)) _ >>= _) _ _ s
    refine wpAny_bind (wpAny_tryCatch (W.item (j + 1) s _ _ lt st fun v h' tk pv' st' kp => ?_))
    have gB' := kp B _ nBw gB
    show wpAny _ A.in1 (tryCatch (holding [v, v] (richCompare .Gt v top >>= _)) _ >>= _) _ _ _
    refine wpAny_bind (wpAny_tryCatch (wpAny_holding (wpAny_bind (cmp (j + 1) (argBest bt j) v top _ _ _ pv' pt ?_))))
    refine wpAny_bind (wpAny_holding (wpAny_truthy_bool ?_))
    refine wpAny_bind (wpAny_letGo (wpAny_pure ?_))
    cases hb : bt (j + 1) (argBest bt j) with
    | true =>
      rw [if_pos rfl]
      refine wpAny_bind ?_
      refine wpAny_updateSeq gB' rfl (wpAny_bind (wpAny_letGo ?_))
      rw [nm_max]
      refine wpAny_pure ⟨plainId_quiet PySem.F.plain_max_loop _, ih (j + 1) _ v _ (by omega) lt (W.frame _ _ _ st' fun b hb1 o e => ?_) (by simp only [argBest, hb, if_true]; exact pv') (Heap.get?_update_self _ gB' rfl) fun v' h2 tk2 p2 k2 => ?_⟩
      · exact (Heap.get?_update_other _ _ (fun z : B = b => nB (by rw [z]; exact hb1))).trans e
      · exact fin v' h2 tk2 p2 fun b o hb1 hb2 e => k2 b o hb1 hb2 ((Heap.get?_update_other _ _ (Ne.symm hb2)).trans (kp b o hb1 e))
    | false =>
      rw [if_neg Bool.false_ne_true]
      refine wpAny_bind (wpAny_letGo ?_)
      rw [nm_max]
      refine wpAny_pure ⟨plainId_quiet PySem.F.plain_max_loop _, ih (j + 1) _ top c (by omega) lt st' (by simp only [argBest, hb, Bool.false_eq_true, if_false]; exact pt) gB' fun v' h2 tk2 p2 k2 => ?_⟩
      exact fin v' h2 tk2 p2 fun b o hb1 hb2 e => k2 b o hb1 hb2 (kp b o hb1 e)
theorem maxd_raw {l : Addr} {its : List Value} {ns : List Int} {d : Int} {td : Tok} {Q : Value → Shared → Prop} (hh : A.handled = none) (hl : s.heap.IsList l its.toArray) (hi : IntsAre its ns)
    (fin : ∀ h' tk M t', (∀ b o, s.heap.get? b = some o → h'.get? b = some o) → (ns = [] → M = d) → (ns ≠ [] → M ∈ ns ∧ ∀ a, a ∈ ns → a ≤ M) → Q (.int M t') { s with heap := h', toks := tk }) :
    wpAny (model prog w) A (call (.builtin "max") [.ref l] [(Str.ofString "default", .int d td)]) Q E s := by
  obtain ⟨xs, e⟩ := hi.allInts.items
  have hn : numsOf (intItems xs).toList = ns := by rw [← e]; exact hi.numsOf
  rw [nums_intItems] at hn
  subst hn
  rw [e] at hl
  refine PyProof.Rows.kmk_tree PySem.F.kind_max PySem.F.plain_max PySem.F.entry_max (ar_maxd _ _) ?_
  show wpAny _ A.in1 (Builtin.Builtins.bindParams "max" ["key", "default"] 0 ⟨[], [(Str.ofString "default", .int d td)]⟩ >>= _) _ _ s
  refine wpAny_bind (wpAny_of_eq (show Builtin.Builtins.bindParams "max" ["key", "default"] 0 ⟨[], [(Str.ofString "default", .int d td)]⟩ = pure [none, some (.int d td)] from rfl) ?_)
  refine wpAny_bind (wpAny_pure ?_)
  refine wpAny_bind (iter_intList hl fun s2 e2 st hfp hlI => ?_)
  subst e2
  refine wpAny_bind (wpAny_newObj_type ?_)
  rw [nm_max]
  refine wpAny_pure ⟨plainId_quiet PySem.F.plain_max_loop _, ?_⟩
  have W := Walks.list (prog := prog) (w := w) (A := A.in1) hh s.heap.objs.size l hlI (intItems xs)
  generalize hS2 : ({ s with heap := s.heap.push { cls := .type "list_iterator", data := .fields #[.ref l, .int 0 0] } } : Shared) = s2 at st hfp
  have nB : s2.heap.objs.size ∉ [s.heap.objs.size, l] := fun z => Nat.lt_irrefl _ (hfp _ z)
  have kp0 : ∀ b o, s.heap.get? b = some o → s2.heap.get? b = some o := fun b o q => by rw [← hS2]; exact Heap.get?_push_of_some _ q
  have st2 := W.frame 0 s2.heap (s2.heap.push { cls := .type "list", data := .seq #[] }) st fun b _ o q => Heap.get?_push_of_some _ q
  have gB : (s2.heap.push { cls := .type "list", data := .seq #[] }).get? s2.heap.objs.size = some { cls := .type "list", data := .seq #[] } := Heap.get?_push_size _ rfl
  refine codeAny_builtin PySem.F.entry_max_loop ?_
  rw [Around.under_plainId PySem.F.plain_max_loop _]
  show wpAny _ A.in1 (seqItems? (.ref s2.heap.objs.size) >>= _) _ _ _
  refine wpAny_bind (wpAny_seqItems gB rfl ?_)
  show wpAny _ A.in1 (tryCatch (pyNext (.ref s.heap.objs.size)) _ >>= _) _ _ _
  have ne0 : ∀ b o, s.heap.get? b = some o → b ∉ [s.heap.objs.size] := fun b o q z => by
    have z : b = s.heap.objs.size := by simpa using z
    rw [z] at q
    exact absurd (Heap.lt_size q) (Nat.lt_irrefl _)
  have sz : (intItems xs).size = xs.size := by simp [intItems]
  by_cases h0 : 0 < xs.size
  · refine wpAny_bind (wpAny_tryCatch (W.item 0 _ _ _ (by rw [sz]; exact h0) st2 fun v h' tk pv' st' kp => ?_))
    have gB' := kp s2.heap.objs.size _ (fun z => nB (by simpa using Or.inl (List.mem_singleton.mp z))) gB
    show wpAny _ A.in1 (updateSeq s2.heap.objs.size (fun _ => #[v, v]) >>= _) _ _ _
    refine wpAny_bind ?_
    refine wpAny_updateSeq gB' rfl ?_
    rw [nm_max]
    refine wpAny_pure ⟨plainId_quiet PySem.F.plain_max_loop _, maxd_turns W (fun i j => decide (numAt xs i > numAt xs j)) (CmpOf.ints_gt (numAt xs) (fun _ _ => intItems_at)) s2.heap.objs.size nB _ 0 _ v _ rfl (by rw [sz]; exact h0)
      (W.frame _ _ _ st' fun b hb1 o q => ?_) pv' (Heap.get?_update_self _ gB' rfl) fun v' h2 tk2 p2 k2 => ?_⟩
    · exact (Heap.get?_update_other _ _ (fun z : s2.heap.objs.size = b => nB (by rw [z]; exact hb1))).trans q
    · obtain ⟨t, rfl⟩ := intItems_at p2
      rw [sz]
      obtain ⟨m1, m2⟩ := argBest_gt (numAt xs) (xs.size - 1)
      have hs2 : s2 = { s with heap := s2.heap } := by rw [← hS2]
      have key := fin h2 tk2 (numAt xs (argBest (fun i j => decide (numAt xs i > numAt xs j)) (xs.size - 1))) t (fun b o q => ?_) (fun z => ?_) (fun _ => ⟨?_, fun a ha => ?_⟩)
      · rw [hs2] at *
        exact key
      · have q2 := kp0 b o q
        have nb : b ≠ s2.heap.objs.size := Nat.ne_of_lt (Heap.lt_size q2)
        exact k2 b o (ne0 b o q) nb ((Heap.get?_update_other _ _ (Ne.symm nb)).trans (kp b o (ne0 b o q) (Heap.get?_push_of_some _ q2)))
      · rw [List.map_eq_nil_iff] at z
        have : xs.size = 0 := by rw [← Array.length_toList, z]; rfl
        omega
      · rw [numAt_eq]
        exact PySem.getD_mem (by rw [List.length_map, Array.length_toList]; omega)
      · obtain ⟨j, hj, rfl⟩ := mem_getD ha
        rw [List.length_map, Array.length_toList] at hj
        rw [← numAt_eq]
        exact m2 j (by omega)
  · have h0 : xs.size = 0 := by omega
    have st3 : (s2.heap.push { cls := .type "list", data := .seq #[] }).IsListIter s.heap.objs.size l (intItems xs).size ∧ (s2.heap.push { cls := .type "list", data := .seq #[] }).IsList l (intItems xs) := by rw [sz, h0]; exact st2
    refine wpAny_bind (wpAny_tryCatch (W.done _ _ _ st3 fun h' tk kp => ?_))
    refine wpAny_bind (wpAny_rule (wpAny_pure ?_))
    have hs2 : s2 = { s with heap := s2.heap } := by rw [← hS2]
    have key := fin h' tk d td (fun b o q => kp b o (ne0 b o q) (Heap.get?_push_of_some _ (kp0 b o q))) (fun _ => rfl) (fun z => absurd (by rw [List.map_eq_nil_iff]; exact List.length_eq_zero_iff.mp (by rw [Array.length_toList]; exact h0)) z)
    rw [hs2]
    exact key
end
end Hs
end
section
set_option Elab.async false
set_option linter.all false
set_option maxRecDepth 100000
set_option maxHeartbeats 2000000
namespace Hs
open PySem PySem.Spec
open PyProof.Rows hiding St
open L2
section
variable {X : Cx}
def rMaxD (K : PySem.W.Frag) : List V → List V → Hp → VK → Prop := fun vs zs H Q => ∃ (a : Addr) (ns : List Int) (d : Int), vs = [V.ref a] ∧ zs = [V.int d] ∧ SqL K H a (ns.map V.int) ∧ ∀ m, (ns = [] → m = d) → (ns ≠ [] → m ∈ ns ∧ ∀ y, y ∈ ns → y ≤ m) → Q (.int m) H
theorem ck_maxd (hc : X.calm = true) : CallKR X (.builtin "max") [Str.ofString "default"] (rMaxD X.K) := by
  intro pins s σ H vs zs us ws Q I r rz h
  obtain ⟨a, ns, d, rfl, rfl, hs, q⟩ := h
  obtain ⟨its, rv, hl, _⟩ := I.list hs
  rw [Vals.ref1 r]
  obtain ⟨u, rfl, t, rfl⟩ := vals1 rz
  exact maxd_raw (I.ok.hd hc) hl.isList rv.ints fun h' tk m t' hk h1 h2 => ⟨.int _, H, I.kept hk, ⟨_, rfl⟩, q m h1 h2⟩
def rSortedR (K : PySem.W.Frag) : List V → List V → Hp → VK → Prop := fun vs zs H Q => ∃ (a : Addr) (ns : List Int) (b : Bool), vs = [V.ref a] ∧ zs = [V.bl b] ∧ SqL K H a (ns.map V.int) ∧ ns.length < 64 ∧
  ∀ (ns' : List Int) (p : Addr), ns'.Perm ns → Ordered b ns' → H p = none → Q (.ref p) (upd H p (.lst (ns'.map V.int)))
theorem ck_sortedR : CallKR X (.builtin "sorted") [Str.ofString "reverse"] (rSortedR X.K) := by
  intro pins s σ H vs zs us ws Q I r rz h
  obtain ⟨a, ns, b, rfl, rfl, hs, h64, q⟩ := h
  obtain ⟨its, rv, hl, _⟩ := I.list hs
  rw [Vals.ref1 r]
  obtain ⟨u, rfl, ru⟩ := vals1 rz
  cases ru
  have hi := rv.ints
  refine PyProof.Rows.sorted_ints_rev hl.isList hi (by rw [hi.length]; exact h64) fun out ns' h1 h2 h3 => ?_
  obtain ⟨ep, he'⟩ := PyProof.Rows.sortedAll_at s.heap its out
  have hlen : (ns'.map V.int).length ≤ sizeLine := by rw [List.length_map, h2.length_eq]; exact small64 h64
  exact ⟨.ref _, upd H (s.heap.objs.size + 1) (.lst (ns'.map V.int)), I.laid (t' := s.toks) (fun _ _ => PyProof.Rows.sortedAll_old) (Nat.le_succ _) ⟨hlen, out.toList, ep, vals_of_ints h1, he'⟩, rfl, q ns' _ h2 h3 (I.hok.fresh (Nat.le_succ _))⟩
end
theorem greatest_of {ns : List Int} {m : Int} (h0 : ∀ x ∈ ns, 0 ≤ x) (h1 : ns = [] → m = 0) (h2 : ns ≠ [] → m ∈ ns ∧ ∀ y, y ∈ ns → y ≤ m) : m = Vbemat.greatest ns := by
  by_cases e : ns = []
  · rw [h1 e, e]; rfl
  · obtain ⟨a, b⟩ := h2 e
    have c := Lev.le_greatest a
    have d := (Lev.greatest_le ns m).mpr ⟨h0 m a, b⟩
    omega
theorem HGood.tot_ok {h : HS} (g : HGood h) : (gTotals h).length = h.bases.length ∧ Lev.InB h.bases.length (Lev.gT h.bases.length h.bases (Vbemat.forced (loadsOf h))) (Vbemat.nth (gTotals h)) := by
  obtain ⟨a, b, _⟩ := Lev.planTotals_ok (Lev.gT_super (base := h.bases) g.good.sup) g.least_tells (Lev.gT_mono g.good)
  exact ⟨a, b⟩
theorem HGood.tot_len {h : HS} (g : HGood h) : (gTotals h).length = h.bases.length := g.tot_ok.1
theorem S_single (v : Nat → Int) {t : Nat} : ∀ {n : Nat}, t < n → Lev.S v (2 ^ t) n = v t
  | n + 1, ht => by
    show Lev.S v (2 ^ t) n + (if (2 ^ t).testBit n = true then v n else 0) = v t
    rw [Lev.two_pow_bit]
    by_cases e : t = n
    · subst e
      have z : Lev.S v (2 ^ t) t = 0 := by
        have := Lev.S_congr (v := v) (w := v) (p := 2 ^ t) (q := 0) (n := t) (fun i hi => by rw [Lev.two_pow_bit, Nat.zero_testBit, decide_eq_false (by omega)]) (fun _ _ _ => rfl)
        rw [this, Lev.S_zero_set]
      rw [z]; simp
    · rw [S_single v (n := n) (by omega)]
      simp [e]
theorem HGood.tot_nn {h : HS} (g : HGood h) {t : Nat} (ht : t < h.bases.length) : 0 ≤ Vbemat.nth (gTotals h) t := by
  have b := g.tot_ok.2.1 (2 ^ t) (Nat.pow_lt_pow_right (by decide) ht)
  rw [S_single _ ht] at b
  have f := Lev.forced_nonneg (loadsOf h) (2 ^ t)
  have s : 0 ≤ Lev.S (Vbemat.nth h.bases) (2 ^ t) h.bases.length := Lev.S_nonneg fun i hi _ => (g.good.bs i).1
  unfold Lev.gT at b
  omega
theorem HGood.tot_mem {h : HS} (g : HGood h) : ∀ x ∈ gTotals h, 0 ≤ x := fun x hx => by
  obtain ⟨t, ht, rfl⟩ := Lev.mem_iff_nth.mp hx
  exact g.tot_nn (by rw [← g.tot_len]; exact ht)
abbrev gAmounts (h : HS) : List Int := Lev.amountsOf h.bases (loadsOf h)
abbrev gFree (h : HS) : List Int := Lev.subLists (Lev.setSums (gAmounts h)) (gForced h)
theorem HGood.am_len {h : HS} (g : HGood h) : (gAmounts h).length = h.bases.length := by
  show ((Lev.totalsOf h.bases (loadsOf h)).zip h.bases |>.map fun z => z.1 - z.2).length = _
  rw [List.length_map, List.length_zip, show (Lev.totalsOf h.bases (loadsOf h)).length = h.bases.length from g.tot_len]
  omega
theorem HGood.free_len {h : HS} (g : HGood h) : (gFree h).length = 2 ^ h.bases.length := by
  show ((Lev.setSums (gAmounts h)).zip (gForced h) |>.map fun z => z.1 - z.2).length = _
  rw [List.length_map, List.length_zip, Lev.length_setSums, g.am_len, g.forced_tells.1]
  omega
section
variable {P : Program} {w : World} {K : PySem.W.Frag} {mg : Str → Option Value} {base : Heap} {C : Addr}
abbrev sAmounts : Stmt := top 22
abbrev nAmounts : List Str := ["house", "total", "base"]
theorem scAmounts : FnScope nAmounts ["house"] (defScope sAmounts) := ⟨rfl, rfl, rfl, by decide +kernel, rfl, by decide +kernel, by decide +kernel⟩
theorem ok_amounts {f : Addr} {fd : FuncData} (F : Fun K "plan_amounts" "plan_amounts" sAmounts f fd) (B : Bi mg) (T : HC K C) (C2 : Cal P w K mg base 5 "plan_totals" ["house"] (spList C gTotals)) :
    FnOk P w K mg base CX0 6 f fd ["house"] (spList C gAmounts) := by
  refine F.ok scAmounts (fun vs H Q E h => ?_) (fun cdv A outer s H vs Q E hr h => ?_)
  · obtain ⟨a, d, h, rfl, _⟩ := h
    rfl
  · obtain ⟨a, d, h, rfl, x, hg, k⟩ := h
    have nd := scAmounts.nd
    refine ⟨_, pss_one (ps_ret (pe_lc (own := [("total", 1), ("base", 2)]) rfl nd (pi_zip rfl B.zip (pa_cons (pcall C2 hr rfl (pa_cons (pv 0) pa_nil)) (pa_cons (pe_fld (pv 0) rfl) pa_nil)))
      (blkOk_by (show blkC nAmounts (defScope sAmounts) _ _ = true by decide +kernel)) (fun _ _ _ _ _ => pg_pair (K := K) (i := 1) (j := 2) rfl rfl nd rfl rfl (Or.inl rfl) (Or.inl rfl)) (fun _ _ _ _ _ => pts_nil) (fun _ _ _ _ _ => pe_op op_sub (pv 1) (pv 2)))), ?_⟩
    refine ⟨_, rfl, a, d, h, rfl, x, hg, fun q1 H1 s1 hq1 => ⟨_, rfl, a, C, _, _, _, rfl, (x.same s1).ins, T.cl, T.bases, hf_bases .., ?_⟩⟩
    have hl : (gTotals h).length ≤ 8 := by rw [hg.tot_len]; exact hg.b8
    exact ⟨q1, d.pb, _, _, rfl, SqL.of hq1, SqL.of (x.same s1).b, fun D hD => zipLc hD hq1 (x.same s1).b (by omega) (fun x y => x - y) (fun _ _ => rfl) (fun x y H' s' => pvI pvVar pvVar) (fun H6 s6 h6 => k D H6 (s1.trans s6) h6)⟩
abbrev sFree : Stmt := top 23
abbrev nFree : List Str := ["house", "amount", "forced"]
theorem scFree : FnScope nFree ["house"] (defScope sFree) := ⟨rfl, rfl, rfl, by decide +kernel, rfl, by decide +kernel, by decide +kernel⟩
theorem ok_free {f : Addr} {fd : FuncData} (F : Fun K "free_sums" "free_sums" sFree f fd) (B : Bi mg) (T : HC K C) (C1 : Cal P w K mg base 1 "set_sums" ["values"] spSetSums) (C2 : Cal P w K mg base 6 "plan_amounts" ["house"] (spList C gAmounts)) (C3 : Cal P w K mg base 3 "forced_sums" ["house"] (spList C gForced)) :
    FnOk P w K mg base CX0 7 f fd ["house"] (spList C gFree) := by
  refine F.ok scFree (fun vs H Q E h => ?_) (fun cdv A outer s H vs Q E hr h => ?_)
  · obtain ⟨a, d, h, rfl, _⟩ := h
    rfl
  · obtain ⟨a, d, h, rfl, x, hg, k⟩ := h
    have nd := scFree.nd
    have hr1 : Room 1 _ := hr.mono (by decide : 1 ≤ 6)
    have hr3 : Room 3 _ := hr.mono (by decide : 3 ≤ 6)
    refine ⟨_, pss_one (ps_ret (pe_lc (own := [("amount", 1), ("forced", 2)]) rfl nd (pi_zip rfl B.zip (pa_cons (pcall C1 hr1 rfl (pa_cons (pcall C2 hr rfl (pa_cons (pv 0) pa_nil)) pa_nil)) (pa_cons (pcall C3 hr3 rfl (pa_cons (pv 0) pa_nil)) pa_nil)))
      (blkOk_by (show blkC nFree (defScope sFree) _ _ = true by decide +kernel)) (fun _ _ _ _ _ => pg_pair (K := K) (i := 1) (j := 2) rfl rfl nd rfl rfl (Or.inl rfl) (Or.inl rfl)) (fun _ _ _ _ _ => pts_nil) (fun _ _ _ _ _ => pe_op op_sub (pv 1) (pv 2)))), ?_⟩
    refine ⟨_, rfl, a, d, h, rfl, x, hg, fun q1 H1 s1 hq1 => ⟨q1, _, rfl, hq1, by rw [hg.am_len]; exact hg.b8, fun q2 H2 s2 hq2 => ⟨_, rfl, a, d, h, rfl, x.same (s1.trans s2), hg, fun q3 H3 s3 hq3 => ?_⟩⟩⟩
    have hl : (Lev.setSums (gAmounts h)).length ≤ 256 := setSums_small (by rw [hg.am_len]; exact hg.b8)
    exact ⟨q2, q3, _, _, rfl, SqL.of (s3 _ _ hq2), SqL.of hq3, fun D hD => zipLc hD (s3 _ _ hq2) hq3 (by omega) (fun x y => x - y) (fun _ _ => rfl) (fun x y H' s' => pvI pvVar pvVar) (fun H6 s6 h6 => k D H6 (s1.trans (s2.trans (s3.trans s6))) h6)⟩
abbrev sPeak : Stmt := top 25
abbrev nPeak : List Str := ["house"]
theorem scPeak : FnScope nPeak ["house"] (defScope sPeak) := ⟨rfl, rfl, rfl, by decide +kernel, rfl, by decide +kernel, by decide +kernel⟩
abbrev gPeak (h : HS) : Int := Vbemat.greatest (gTotals h)
def spPeak (C : Addr) : Sp := fun vs H Q _ => ∃ (a : Addr) (d : HAd) (h : HS), vs = [.ref a] ∧ HAt C H a d h ∧ HGood h ∧ ∀ H' : Hp, Same H H' → Q (.int (gPeak h)) H'
theorem ok_peak {f : Addr} {fd : FuncData} (F : Fun K "plan_peak" "plan_peak" sPeak f fd) (B : Bi mg) (C2 : Cal P w K mg base 5 "plan_totals" ["house"] (spList C gTotals)) :
    FnOk P w K mg base CX0 6 f fd ["house"] (spPeak C) := by
  refine F.ok scPeak (fun vs H Q E h => ?_) (fun cdv A outer s H vs Q E hr h => ?_)
  · obtain ⟨a, d, h, rfl, _⟩ := h
    rfl
  · obtain ⟨a, d, h, rfl, x, hg, k⟩ := h
    refine ⟨_, pss_one (ps_ret (pe_callBK (ck_maxd rfl) rfl B.max bt_max (pa_cons (pcall C2 hr rfl (pa_cons (pv 0) pa_nil)) pa_nil) (pk_cons pe_int pk_nil))), ?_⟩
    refine ⟨_, rfl, a, d, h, rfl, x, hg, fun q1 H1 s1 hq1 => ⟨q1, _, _, rfl, rfl, SqL.of hq1, fun m h1 h2 => ?_⟩⟩
    rw [greatest_of hg.tot_mem h1 h2]
    exact k H1 s1
end
end Hs
end
section
set_option Elab.async false
set_option linter.all false
set_option maxRecDepth 100000
set_option maxHeartbeats 2000000
namespace Hs
open PySem PySem.Spec
open PyProof.Rows hiding St
open L2
theorem min_fold : ∀ (l : List Int) (r m : Int), m ∈ r :: l → (∀ y, y ∈ r :: l → m ≤ y) → m = l.foldl min r
  | [], r, m, h1, _ => by simpa using h1
  | a :: l, r, m, h1, h2 => by
    have hr := h2 r (by simp)
    have ha := h2 a (by simp)
    refine min_fold l (min r a) m ?_ fun y hy => ?_
    · rcases List.mem_cons.mp h1 with e | e
      · subst e; rw [Int.min_eq_left ha]; exact List.mem_cons_self ..
      · rcases List.mem_cons.mp e with e | e
        · subst e; rw [Int.min_eq_right hr]; exact List.mem_cons_self ..
        · exact List.mem_cons_of_mem _ e
    · rcases List.mem_cons.mp hy with e | e
      · subst e; omega
      · exact h2 y (by simp [e])
theorem foldl_map_min (g : Nat → Int) : ∀ (l : List Nat) (r : Int), (l.map g).foldl min r = l.foldl (fun m p => min m (g p)) r
  | [], _ => rfl
  | a :: l, r => by rw [List.map_cons, List.foldl_cons, List.foldl_cons, foldl_map_min g l]
theorem fm_filter (c : Nat → Bool) (g : Nat → V) (l : List Nat) : l.filterMap (fun i => if c i = true then some (g i) else none) = (l.filter c).map g := by
  induction l with
  | nil => rfl
  | cons a r ih =>
    by_cases h : c a = true
    · rw [List.filterMap_cons, if_pos h, List.filter_cons, if_pos h, List.map_cons, ih]
    · rw [List.filterMap_cons, if_neg h, List.filter_cons, if_neg h, ih]
theorem bit_small (p t : Nat) : -(2 ^ 64) < bit p t ∧ bit p t < 2 ^ 64 := by
  unfold bit
  split <;> omega
theorem freeBehind_len (fl : List Int) (t : Nat) (a : Int) : (Lev.freeBehind fl t a).length = fl.length := by unfold Lev.freeBehind; rw [List.length_map, List.length_range]
theorem zip_range_at {xs : List Int} {i : Nat} {z : Int} (h : xs[i]? = some z) : ((List.range xs.length).zip xs)[i]? = some (i, z) := by
  refine List.getElem?_zip_eq_some.mpr ⟨?_, h⟩
  rw [List.getElem?_range (List.getElem?_eq_some_iff.mp h).1]
abbrev gShares (h : HS) : List Int := Lev.sharesOf h.bases (loadsOf h)
section
variable {P : Program} {w : World} {K : PySem.W.Frag} {mg : Str → Option Value} {base : Heap} {C : Addr}
abbrev sShares : Stmt := top 24
abbrev nShares : List Str := ["house", "free", "shares", "need", "rooms", "period", "room", "share", "before", "own", "part", "left"]
theorem scShares : FnScope nShares ["house"] (defScope sShares) := ⟨rfl, rfl, rfl, by decide +kernel, rfl, by decide +kernel, by decide +kernel⟩
theorem ok_shares {f : Addr} {fd : FuncData} (F : Fun K "plan_shares" "plan_shares" sShares f fd) (B : Bi mg) (T : HC K C) (C1 : Cal P w K mg base 7 "free_sums" ["house"] (spList C gFree)) (C2 : Cal P w K mg base 2 "forced_by" ["need", "rooms"] spForcedBy) (C3 : Cal P w K mg base 1 "holds" ["part", "period"] spHolds) :
    FnOk P w K mg base CX0 8 f fd ["house"] (spList C gShares) := by
  refine F.ok scShares (fun vs H Q E h => ?_) (fun cdv A outer s H vs Q E hr h => ?_)
  · obtain ⟨a, d, h, rfl, _⟩ := h
    rfl
  · obtain ⟨a, d, h, rfl, x, hg, k⟩ := h
    have nd := scShares.nd
    have hr1 : Room 1 _ := hr.mono (by decide : 1 ≤ 7)
    have hr2 : Room 2 _ := hr.mono (by decide : 2 ≤ 7)
    refine ⟨_, pss_cons (ps_set (i := 1) nd rfl (Or.inl rfl) (pcall C1 hr rfl (pa_cons (pv 0) pa_nil)))
      (pss_cons (ps_set (i := 2) nd rfl (Or.inl rfl) (pe_lst pa_nil))
      (pss_cons (ps_for PassesOwn.never rfl (pi_zip rfl B.zip (pa_cons (pe_fld (pv 0) rfl) (pa_cons (pe_fld (pv 0) rfl) pa_nil))) (pg_pair (K := K) (i := 3) (j := 4) rfl rfl nd rfl rfl (Or.inl rfl) (Or.inl rfl))
        (pss_cons (ps_setLc (i := 1) (own := [("before", 8), ("own", 9)]) rfl nd rfl rfl (sw_true rfl rfl rfl (by decide +kernel)) (pi_zip rfl B.zip (pa_cons (pv 1) (pa_cons (pcall C2 hr2 rfl (pa_cons (pv 3) (pa_cons (pv 4) pa_nil))) pa_nil)))
            (blkOk_by (show blkC nShares (defScope sShares) _ _ = true by decide +kernel)) (fun _ _ _ _ _ => pg_pair (K := K) (i := 8) (j := 9) rfl rfl nd rfl rfl (Or.inl rfl) (Or.inl rfl))
            (fun _ _ _ _ _ => pts_nil) (fun _ _ _ _ _ => pe_op op_add (pv 8) (pv 9)))
        (pss_one (ps_for PassesOwn.never rfl (pi_enum rfl B.enumerate (pa_cons (pv 4) pa_nil)) (pg_pair (K := K) (i := 5) (j := 6) rfl rfl nd rfl rfl (Or.inr rfl) (Or.inl rfl))
          (pss_cons (ps_set (i := 7) nd rfl (Or.inr rfl) (pe_callB (cr_min rfl) rfl B.min bt_min (pa_cons (pe_op op_cat (pe_lst (pa_cons (pv 6) pa_nil))
              (pe_lc (own := [("part", 10), ("left", 11)]) rfl nd (pi_enum rfl B.enumerate (pa_cons (pv 1) pa_nil)) (blkOk_by (show blkC nShares (defScope sShares) _ _ = true by decide +kernel))
                (fun _ _ _ _ _ => pg_pair (K := K) (i := 10) (j := 11) rfl rfl nd rfl rfl (Or.inl rfl) (Or.inl rfl))
                (fun _ _ _ _ _ => pts_one (pt_cmp (pc_eqI (pcall C3 hr1 rfl (pa_cons (pv 10) (pa_cons (pv 5) pa_nil))) pe_int))) (fun _ _ _ _ _ => pv 11))) pa_nil)))
          (pss_cons (ps_setLc (i := 1) (own := [("part", 10), ("left", 11)]) rfl nd rfl rfl (sw_true rfl rfl rfl (by decide +kernel)) (pi_enum rfl B.enumerate (pa_cons (pv 1) pa_nil))
              (blkOk_by (show blkC nShares (defScope sShares) _ _ = true by decide +kernel)) (fun _ _ _ _ _ => pg_pair (K := K) (i := 10) (j := 11) rfl rfl nd rfl rfl (Or.inl rfl) (Or.inl rfl))
              (fun _ _ _ _ _ => pts_nil) (fun _ _ _ _ _ => pe_op op_sub (pv 11) (pe_op op_mul (pv 7) (pcall C3 hr1 rfl (pa_cons (pv 10) (pa_cons (pv 5) pa_nil))))))
          (pss_one (ps_expr (pe_bm PySem.F.plainAttrs_list PySem.F.slot_list_append PySem.F.type_list_append mt_append (pv 2) (pa_cons (pv 7) pa_nil))))))))))
      (pss_one (ps_ret (pv 2))))), ?_⟩
    refine ⟨_, rfl, a, d, h, rfl, x, hg, fun q1 H1 s1 hq1 => ⟨Nat.zero_le _, fun sh hsh => ?_⟩⟩
    have hshH : H sh = none := s1.free hsh
    have s2 : Same H (upd H1 sh (.lst [])) := Sm.add s1 hsh
    have x2 := x.same s2
    refine ⟨_, rfl, a, C, _, _, _, rfl, x2.ins, T.cl, T.needs, hf_needs .., _, rfl, a, C, _, _, _, rfl, x2.ins, T.cl, T.rooms, hf_rooms .., ?_⟩
    refine ⟨d.pn, d.pr, _, _, rfl, SqL.of x2.n, SqL.of x2.r, forW wk_zip (fun i σ H' => ∃ (fa : Addr) (fl out : List Int) (v3 v4 v5 v6 v7 : Option V), σ = [some (.ref a), some (.ref fa), some (.ref sh), v3, v4, v5, v6, v7, none, none, none, none] ∧ Same H H' ∧ LI H' fa fl ∧ LI H' sh out ∧ fa ≠ sh ∧
        (fl, out) = ((loadsOf h).take i).foldl Lev.loadStep (gFree h, []) ∧ fl.length ≤ 256 ∧ out.length ≤ 8 * i)
      ⟨q1, _, [], none, none, none, none, none, rfl, s2, Sm.one hsh _ _ hq1, upd_same, ne_of_none hq1 hsh, rfl, by rw [hg.free_len]; exact pow8 hg.b8, Nat.zero_le _⟩ (fun _ _ H' _ ⟨_, _, _, _, _, _, _, _, _, s, _⟩ => ⟨SqL.of (x.same s).n, SqL.of (x.same s).r⟩) ?_ ?_⟩
    · rintro i y σ H3 H4 hi ⟨fa, fl, out, v3, v4, v5, v6, v7, rfl, s3, hfa, hout, hne, est, hfl, hol⟩ s4 ⟨T2, y1, y2, rfl, hT, hy1, hy2⟩
      obtain ⟨need, hneed, rfl⟩ := int_at hy1
      rw [List.getElem?_map] at hy2
      obtain ⟨rp, hrp, rfl⟩ : ∃ rp, d.rs[i]? = some rp ∧ y2 = V.ref rp := by
        cases e : d.rs[i]? with
        | none => rw [e] at hy2; cases hy2
        | some z => rw [e] at hy2; exact ⟨z, rfl, (Option.some.inj hy2).symm⟩
      have hir : i < h.rooms.length := by rw [← x.rl]; exact (List.getElem?_eq_some_iff.mp hrp).1
      have hi8 : i < 8 := by have := hg.n8; rw [hg.same] at this; omega
      obtain ⟨row, hrow⟩ : ∃ row, h.rooms[i]? = some row := ⟨_, List.getElem?_eq_getElem hir⟩
      have hrl := hg.row hrow
      have hb8 := hg.b8
      have hrowH : LI H rp row := x.rows i rp row hrp hrow
      have s34 := s3.trans s4
      refine gPair hT ?_
      refine ⟨_, rfl, _, rfl, _, rfl, need, rp, row, rfl, s34 _ _ hrowH, by omega, fun q5 H5 s5 hq5 => ?_⟩
      refine ⟨fa, q5, _, _, rfl, SqL.of (s5 _ _ (s4 _ _ hfa)), SqL.of hq5, fun D hD => zipLc hD (s5 _ _ (s4 _ _ hfa)) hq5 (by omega) (fun x y => x + y) (fun _ _ => rfl) (fun x y H' s' => pvI pvVar pvVar) (fun H6 s6 h6 => ?_)⟩
      have s36 := s34.trans (s5.trans s6)
      have hDsh : D ≠ sh := fun e => by
        have z := s5 _ _ (s4 _ _ hout)
        rw [← e, hD] at z
        cases z
      have hout6 := s6 _ _ (s5 _ _ (s4 _ _ hout))
      refine ⟨_, rfl, rp, _, rfl, SqL.of (s36 _ _ hrowH), forW wk_enum (fun j σ H' => ∃ (fa : Addr) (fl2 out2 : List Int) (v5 v6 v7 : Option V), σ = [some (.ref a), some (.ref fa), some (.ref sh), some (.int need), some (.ref rp), v5, v6, v7, none, none, none, none] ∧ Same H H' ∧ LI H' fa fl2 ∧ LI H' sh out2 ∧ fa ≠ sh ∧
          (fl2, out2) = (((List.range row.length).zip row).take j).foldl Lev.shareStep (Lev.addLists fl (Lev.forcedBy need row), out) ∧ fl2.length ≤ 256 ∧ out2.length ≤ 8 * i + j)
        ⟨D, _, out, v5, v6, v7, rfl, s36, h6, hout6, hDsh, rfl, by rw [List.length_map, List.length_zip]; omega, by omega⟩ (fun _ _ H' _ ⟨_, _, _, _, _, _, _, s, _⟩ => SqL.of (s _ _ hrowH)) ?_ ?_⟩
      · rintro j y σ H7 H8 hj ⟨fb, fl2, out2, v5, v6, v7, rfl, s7, hfb, hout2, hne2, est2, hfl2, hol2⟩ s8 ⟨T3, y3, rfl, hT3, hy3⟩
        obtain ⟨room, hroom, rfl⟩ := int_at hy3
        rw [List.length_map] at hj
        have hfb8 := s8 _ _ hfb
        refine gPair hT3 ?_
        refine ⟨_, rfl, (by show 1 ≤ sizeLine; decide), fun r1 hr1n => ?_⟩
        have hfb9 := Sm.one (o := .lst [V.int room]) hr1n _ _ hfb8
        refine ⟨_, rfl, fb, _, rfl, SqL.of hfb9, fun D2 hD2 => lcW hD2 wk_enum (by rw [List.length_map]; exact line_le (by omega)) (fun H' s' => SqL.of (s' _ _ hfb9)) (fun p => if p.testBit j = true then some (V.int (Vbemat.nth fl2 p)) else none) ?_ ?_⟩
        · rintro p yy H10 Q' N hp s10 ⟨T4, z4, rfl, hT4, hz4⟩ k1 k2
          obtain ⟨u, hu, rfl⟩ := int_at hz4
          refine gPair hT4 ⟨rfl, ?_⟩
          refine ⟨_, rfl, _, rfl, p, j, rfl, ?_⟩
          refine ⟨_, _, rfl, rfl, _, rfl, ?_⟩
          exact bit_if (fun hb => ⟨_, rfl, k1 _ _ (by rw [if_pos hb, nth_of hu]) (Same.refl _)⟩) (fun hb => k2 _ (by rw [hb]; rfl) (Same.refl _))
        · intro H11 s11 h11
          rw [List.length_map, fm_filter (fun p => p.testBit j) (fun p => V.int (Vbemat.nth fl2 p))] at h11
          have hr11 : H11 r1 = some (.lst [V.int room]) := s11 _ _ upd_same
          have hflen : ((List.range fl2.length).filter fun p => p.testBit j).length ≤ 256 := Nat.le_trans (List.length_filter_le _ _) (by rw [List.length_range]; exact hfl2)
          refine ⟨r1, D2, _, _, rfl, rfl, hr11, h11, ?_, fun r2 hr2n => ?_⟩
          · rw [List.length_map]; exact line_le (by show 1 + _ ≤ _; omega)
          · have hns : ([V.int room] ++ ((List.range fl2.length).filter fun p => p.testBit j).map fun p => V.int (Vbemat.nth fl2 p)) = (room :: ((List.range fl2.length).filter fun p => p.testBit j).map (Vbemat.nth fl2)).map V.int := by
              rw [List.map_cons, List.map_map]; rfl
            refine ⟨r2, room :: ((List.range fl2.length).filter fun p => p.testBit j).map (Vbemat.nth fl2), rfl, SqL.of (upd_same.trans (by rw [hns])), Nat.zero_lt_succ _, fun m hm1 hm2 => ?_⟩
            have em : m = Lev.shareAt fl2 j room := by
              rw [min_fold _ _ _ hm1 hm2, foldl_map_min]; rfl
            subst em
            have s12 : Same H8 (upd H11 r2 (.lst ([V.int room] ++ ((List.range fl2.length).filter fun p => p.testBit j).map fun p => V.int (Vbemat.nth fl2 p)))) := Sm.add ((Sm.one hr1n).trans s11) hr2n
            generalize (upd H11 r2 (.lst ([V.int room] ++ ((List.range fl2.length).filter fun p => p.testBit j).map fun p => V.int (Vbemat.nth fl2 p)))) = H12 at s12
            have hfb12 := s12 _ _ hfb8
            refine ⟨_, rfl, fb, _, rfl, SqL.of hfb12, fun D3 hD3 => lcW hD3 wk_enum (by rw [List.length_map]; exact line_le (by omega)) (fun H' s' => SqL.of (s' _ _ hfb12)) (fun p => some (V.int (Vbemat.nth fl2 p - (if p.testBit j = true then Lev.shareAt fl2 j room else 0)))) ?_ ?_⟩
            · rintro p yy H13 Q' N hp s13 ⟨T4, z4, rfl, hT4, hz4⟩ k1 k2
              obtain ⟨u, hu, rfl⟩ := int_at hz4
              refine gPair hT4 ⟨rfl, ?_⟩
              refine iteT (B := N H13) ?_
              refine ⟨_, rfl, _, rfl, _, rfl, _, rfl, p, j, rfl, _, _, rfl, rfl, .inr (bit_small p j), _, _, rfl, rfl, ?_⟩
              refine k1 _ _ ?_ (Same.refl _)
              rw [nth_of hu]
              unfold bit
              cases p.testBit j with
              | true => rw [if_pos rfl, if_pos rfl, Int.mul_one]
              | false => rw [if_neg Bool.false_ne_true, if_neg Bool.false_ne_true, Int.mul_zero]
            · intro H14 s14 h14
              rw [List.length_map, fm_some] at h14
              have h14' : LI H14 D3 (Lev.freeBehind fl2 j (Lev.shareAt fl2 j room)) := by
                refine h14.trans ?_; unfold Lev.freeBehind; rw [List.map_map]; rfl
              have hD3sh : D3 ≠ sh := fun e => by
                have z := s12 _ _ (s8 _ _ hout2)
                rw [← e, hD3] at z
                cases z
              have hout14 := s14 _ _ (s12 _ _ (s8 _ _ hout2))
              refine ⟨_, rfl, .inl ⟨rfl, _, SqL.of hout14⟩, _, rfl, sh, _, _, rfl, rfl, hout14, ?_, ?_⟩
              · rw [List.length_map]
                exact Nat.lt_of_le_of_lt (show out2.length ≤ 1000 by omega) (by decide)
              · refine ⟨D3, Lev.freeBehind fl2 j (Lev.shareAt fl2 j room), out2 ++ [Lev.shareAt fl2 j room], _, _, _, rfl, Sm.over (s7.trans (s8.trans (s12.trans s14))) hshH, ?_, ?_, hD3sh, ?_, ?_, ?_⟩
                · rw [LI, upd_ne hD3sh]; exact h14'
                · exact upd_same.trans (by rw [List.map_append]; rfl)
                · rw [take_snoc (zip_range_at hroom), List.foldl_append, ← est2]; rfl
                · rw [freeBehind_len]; exact hfl2
                · rw [List.length_append]; show out2.length + 1 ≤ _; omega
      · rintro σ H7 ⟨fb, fl2, out2, v5, v6, v7, rfl, s7, hfb, hout2, hne2, est2, hfl2, hol2⟩
        rw [List.length_map] at est2 hol2
        have et : ((List.range row.length).zip row).take row.length = (List.range row.length).zip row := List.take_of_length_le (by rw [List.length_zip, List.length_range]; omega)
        rw [et] at est2
        refine ⟨fb, fl2, out2, _, _, _, _, _, rfl, s7, hfb, hout2, hne2, ?_, hfl2, by omega⟩
        rw [take_snoc (loads_at hneed hrow), List.foldl_append, ← est]
        exact est2
    · rintro σ H3 ⟨fa, fl, out, v3, v4, v5, v6, v7, rfl, s3, hfa, hout, hne, est, hfl, hol⟩
      refine ⟨_, rfl, k sh H3 s3 ?_⟩
      have e : (loadsOf h).take (min (h.needs.map V.int).length (d.rs.map V.ref).length) = loadsOf h := by
        rw [List.length_map, List.length_map, x.rl, ← hg.same, Nat.min_self, ← hg.len, List.take_length]
      rw [e] at est
      have e2 : out = gShares h := congrArg Prod.snd est
      rw [← e2]; exact hout
end
end Hs
end
section
set_option Elab.async false
set_option linter.all false
set_option maxRecDepth 100000
set_option maxHeartbeats 2000000
namespace Hs
open PySem PySem.Spec
open PyProof.Rows hiding St
open L2
def spQ1 (C : Addr) (pre : HS → Int → Prop) (g : HS → Int → List Int) : Sp := fun vs H Q _ => ∃ (a : Addr) (d : HAd) (h : HS) (i : Int), vs = [.ref a, .int i] ∧ HAt C H a d h ∧ HGood h ∧ pre h i ∧ ∀ (q : Addr) (H' : Hp), Same H H' → LI H' q (g h i) → Q (.ref q) H'
def spQ2 (C : Addr) (pre : HS → Int → Int → Prop) (g : HS → Int → Int → List Int) : Sp := fun vs H Q _ => ∃ (a : Addr) (d : HAd) (h : HS) (i j : Int), vs = [.ref a, .int i, .int j] ∧ HAt C H a d h ∧ HGood h ∧ pre h i j ∧ ∀ (q : Addr) (H' : Hp), Same H H' → LI H' q (g h i j) → Q (.ref q) H'
def spQL (C : Addr) (pre : HS → List Int → Prop) (g : HS → List Int → List Int) : Sp := fun vs H Q _ => ∃ (a : Addr) (d : HAd) (h : HS) (p : Addr) (l : List Int), vs = [.ref a, .ref p] ∧ LI H p l ∧ HAt C H a d h ∧ HGood h ∧ pre h l ∧ ∀ (q : Addr) (H' : Hp), Same H H' → LI H' q (g h l) → Q (.ref q) H'
theorem dec_if {c A B : Prop} [Decidable c] (h1 : c → A) (h2 : ¬ c → B) : if decide c = true then A else B := by
  by_cases e : c
  · rw [if_pos (decide_eq_true e)]; exact h1 e
  · rw [if_neg (by rw [decide_eq_false e]; exact Bool.false_ne_true)]; exact h2 e
theorem put_perm (x : Int) : ∀ l : List Int, (Vbemat.put x l).Perm (x :: l)
  | [] => List.Perm.refl _
  | y :: r => by
    unfold Vbemat.put
    split
    · exact List.Perm.refl _
    · exact (List.Perm.cons y (put_perm x r)).trans (List.Perm.swap x y r)
theorem put_desc (x : Int) : ∀ l : List Int, l.Pairwise (· ≥ ·) → (Vbemat.put x l).Pairwise (· ≥ ·)
  | [], _ => by simp [Vbemat.put]
  | y :: r, h => by
    obtain ⟨h1, h2⟩ := List.pairwise_cons.mp h
    unfold Vbemat.put
    by_cases c : y ≤ x
    · rw [if_pos c]
      refine List.pairwise_cons.mpr ⟨fun z hz => ?_, h⟩
      rcases List.mem_cons.mp hz with e | e
      · subst e; exact c
      · have := h1 z e; show z ≤ x; exact Int.le_trans this c
    · rw [if_neg c]
      refine List.pairwise_cons.mpr ⟨fun z hz => ?_, put_desc x r h2⟩
      rcases List.mem_cons.mp ((put_perm x r).mem_iff.mp hz) with e | e
      · subst e; show z ≤ y; omega
      · exact h1 z e
theorem sorted_perm (l : List Int) : (Vbemat.sorted l).Perm l := by
  induction l with
  | nil => exact List.Perm.refl _
  | cons a r ih => exact (put_perm a _).trans (List.Perm.cons a ih)
theorem sorted_desc (l : List Int) : (Vbemat.sorted l).Pairwise (· ≥ ·) := by
  induction l with
  | nil => exact List.Pairwise.nil
  | cons a r ih => exact put_desc a _ ih
theorem desc_eq : ∀ {l m : List Int}, l.Perm m → l.Pairwise (· ≥ ·) → m.Pairwise (· ≥ ·) → l = m
  | [], m, p, _, _ => by rw [List.nil_perm.mp p]
  | a :: l, m, p, h1, h2 => by
    cases m with
    | nil => exact absurd p.length_eq (by simp)
    | cons b m =>
      obtain ⟨a1, a2⟩ := List.pairwise_cons.mp h1
      obtain ⟨b1, b2⟩ := List.pairwise_cons.mp h2
      have e : a = b := by
        have x1 : b ≤ a := by
          rcases List.mem_cons.mp (p.mem_iff.mpr (List.mem_cons_self ..)) with e | e
          · rw [e]; exact Int.le_refl _
          · exact a1 b e
        have x2 : a ≤ b := by
          rcases List.mem_cons.mp (p.mem_iff.mp (List.mem_cons_self ..)) with e | e
          · rw [e]; exact Int.le_refl _
          · exact b1 a e
        omega
      subst e
      rw [desc_eq (List.Perm.cons_inv p) a2 b2]
section
variable {P : Program} {w : World} {K : PySem.W.Frag} {mg : Str → Option Value} {base : Heap} {C : Addr}
abbrev sTop : Stmt := top 28
abbrev nTop : List Str := ["house", "many", "falling"]
theorem scTop : FnScope nTop ["house", "many"] (defScope sTop) := ⟨rfl, rfl, rfl, by decide +kernel, rfl, by decide +kernel, by decide +kernel⟩
abbrev gTop (h : HS) (k : Int) : List Int := [0, Vbemat.top k.toNat (gTotals h)]
theorem cut_take {xs : List Int} {k : Int} (h : 0 ≤ k) : cutV (xs.map V.int) none (some k) = (xs.take k.toNat).map V.int := by
  unfold cutV HT.sIx
  simp only [List.length_map, List.drop_zero, Nat.sub_zero]
  rw [if_neg (by omega), List.map_take]
  by_cases c : k.toNat ≤ xs.length
  · rw [Nat.min_eq_left c]
  · rw [Nat.min_eq_right (by omega), List.take_of_length_le (by rw [List.length_map]; omega), List.take_of_length_le (by rw [List.length_map]; omega)]
theorem ok_top {f : Addr} {fd : FuncData} (F : Fun K "top_sum" "top_sum" sTop f fd) (B : Bi mg) (C2 : Cal P w K mg base 5 "plan_totals" ["house"] (spList C gTotals)) :
    FnOk P w K mg base CX0 6 f fd ["house", "many"] (spQ1 C (fun _ k => 0 ≤ k) gTop) := by
  refine F.ok scTop (fun vs H Q E h => ?_) (fun cdv A outer s H vs Q E hr h => ?_)
  · obtain ⟨a, d, h, i, rfl, _⟩ := h
    rfl
  · obtain ⟨a, d, h, i, rfl, x, hg, hi, k⟩ := h
    have nd := scTop.nd
    refine ⟨_, pss_cons (ps_set (i := 2) nd rfl (Or.inl rfl) (pe_callBK ck_sortedR rfl B.sorted bt_sorted (pa_cons (pcall C2 hr rfl (pa_cons (pv 0) pa_nil)) pa_nil) (pk_cons pe_bl pk_nil)))
      (pss_one (ps_ret (pe_lst (pa_cons pe_int (pa_cons (pe_callB (cr_sum rfl) rfl B.sum bt_sum (pa_cons (pe_slice sl_list (pv 2) po_none (po_some (pv 1))) pa_nil)) pa_nil))))), ?_⟩
    refine ⟨_, rfl, a, d, h, rfl, x, hg, fun q1 H1 s1 hq1 => ⟨q1, _, _, rfl, rfl, SqL.of hq1, by rw [hg.tot_len]; have := hg.b8; omega, fun ns' p hp ho hpn => ?_⟩⟩
    have e : ns' = Vbemat.sorted (gTotals h) := desc_eq (hp.trans (sorted_perm _).symm) (by unfold Ordered at ho; exact ho) (sorted_desc _)
    subst e
    refine ⟨_, rfl, _, rfl, _, rfl, p, _, rfl, SqL.of upd_same, fun p2 hp2 => ?_⟩
    refine ⟨p2, (Vbemat.sorted (gTotals h)).take i.toNat, rfl, SqL.of (by rw [cut_take hi]; exact upd_same), (by show 2 ≤ sizeLine; decide), fun p3 hp3 => ?_⟩
    exact k p3 _ (Sm.add (Sm.add (Sm.add s1 hpn) hp2) hp3) upd_same
abbrev sSqOf : Stmt := top 29
abbrev nSqOf : List Str := ["totals", "total"]
theorem scSqOf : FnScope nSqOf ["totals"] (defScope sSqOf) := ⟨rfl, rfl, rfl, by decide +kernel, rfl, by decide +kernel, by decide +kernel⟩
def spSqOf : Sp := fun vs H Q _ => ∃ (p : Addr) (xs : List Int), vs = [.ref p] ∧ LI H p xs ∧ xs.length ≤ 8 ∧ (∀ x ∈ xs, -(2 ^ 64) < x ∧ x < 2 ^ 64) ∧ ∀ H' : Hp, Same H H' → Q (.int (Vbemat.squares xs)) H'
theorem ok_sqOf {f : Addr} {fd : FuncData} (F : Fun K "squares_of" "squares_of" sSqOf f fd) (B : Bi mg) : FnOk P w K mg base CX0 1 f fd ["totals"] spSqOf := by
  refine F.ok scSqOf (fun vs H Q E h => ?_) (fun cdv A outer s H vs Q E hr h => ?_)
  · obtain ⟨p, xs, rfl, _⟩ := h
    rfl
  · obtain ⟨p, xs, rfl, hp, hl, hb, k⟩ := h
    have nd := scSqOf.nd
    refine ⟨_, pss_one (ps_ret (pe_callB (cr_sum rfl) rfl B.sum bt_sum (pa_cons (pe_lc (own := [("total", 1)]) rfl nd (pi_list (pv 0)) (blkOk_by (show blkC nSqOf (defScope sSqOf) _ _ = true by decide +kernel))
      (fun _ _ _ _ _ => pg_name (i := 1) nd rfl (Or.inl rfl)) (fun _ _ _ _ _ => pts_nil) (fun _ _ _ _ _ => pe_op op_mul (pv 1) (pv 1))) pa_nil))), ?_⟩
    refine ⟨_, rfl, p, rfl, ⟨_, SqL.of hp⟩, fun D hD => lcW hD wk_list (by rw [List.length_map]; exact line_le (by omega)) (fun H' s' => SqL.of (s' _ _ hp)) (fun j => (xs[j]?).map fun b => V.int (b * b)) ?_ ?_⟩
    · rintro j y H3 Q' N hj s3 hy k1 k2
      obtain ⟨u, hu, rfl⟩ := int_at hy
      exact ⟨rfl, iteT (B := N H3) ⟨_, rfl, _, rfl, _, _, rfl, rfl, .inl (hb u (List.mem_of_getElem? hu)), k1 _ _ (by rw [hu]; rfl) (Same.refl _)⟩⟩
    · intro H3 s3 h3
      rw [List.length_map, fm_list _ (fun b => b * b) (fun j u hu => by rw [hu]; rfl)] at h3
      exact ⟨D, _, rfl, SqL.of h3, k H3 s3⟩
abbrev sSquare : Stmt := top 30
abbrev nSquare : List Str := ["house"]
theorem scSquare : FnScope nSquare ["house"] (defScope sSquare) := ⟨rfl, rfl, rfl, by decide +kernel, rfl, by decide +kernel, by decide +kernel⟩
abbrev gSquare (h : HS) : List Int := [0, Vbemat.squares (gTotals h)]
theorem S_one_le {v : Nat → Int} {n t : Nat} (h0 : ∀ t, t < n → 0 ≤ v t) (ht : t < n) : v t ≤ Lev.S v (2 ^ n - 1) n := by
  have := Lev.S_sub (v := v) (p := 2 ^ t) (q := 2 ^ n - 1) (n := n) h0 fun i hi _ => by rw [Lev.full_bit]; exact decide_eq_true hi
  rw [S_single v ht] at this
  exact this
theorem sum_le_len : ∀ (l : List Int) (b : Int), 0 ≤ b → (∀ x ∈ l, x ≤ b) → l.sum ≤ l.length * b
  | [], b, _, _ => by simp
  | a :: r, b, hb, h => by
    have ih := sum_le_len r b hb fun x hx => h x (List.mem_cons_of_mem _ hx)
    have h1 := h a (List.mem_cons_self ..)
    rw [List.sum_cons, List.length_cons]
    have e : ((r.length + 1 : Nat) : Int) * b = r.length * b + b := by rw [show ((r.length + 1 : Nat) : Int) = (r.length : Int) + 1 by omega, Int.add_mul, Int.one_mul]
    omega
theorem HGood.tot_le {h : HS} (g : HGood h) {t : Nat} (ht : t < h.bases.length) : Vbemat.nth (gTotals h) t ≤ 16000000000 := by
  have h1 := S_one_le (v := Vbemat.nth (gTotals h)) (n := h.bases.length) (fun i hi => g.tot_nn hi) ht
  have h2 := g.tot_ok.2.2
  rw [h2] at h1
  have h3 : Vbemat.forced (loadsOf h) (2 ^ h.bases.length - 1) = ((loadsOf h).map fun x => x.need).sum := Lev.forced_full fun y hy => ⟨(g.good.ld y hy).1, (g.good.ld y hy).2.2.1.1⟩
  have h4 := Lev.sum_eq_S h.bases
  have h5 := sum_le_len h.bases 1000000000 (by omega) fun y hy => (g.good.b0 y hy).2
  have h6 := sum_le_len ((loadsOf h).map fun x => x.need) 1000000000 (by omega) fun y hy => by
    obtain ⟨z, hz, rfl⟩ := List.mem_map.mp hy
    exact (g.good.ld z hz).2.2.1.2
  rw [List.length_map] at h6
  have h7 := g.b8
  have h8 := g.good.l8
  have e1 : (h.bases.length : Int) * 1000000000 ≤ 8000000000 := by omega
  have e2 : ((loadsOf h).length : Int) * 1000000000 ≤ 8000000000 := by omega
  unfold Lev.gT at h1
  rw [h3, ← h4] at h1
  omega
theorem HGood.tot_in {h : HS} (g : HGood h) : ∀ x ∈ gTotals h, -(2 ^ 64) < x ∧ x < 2 ^ 64 := fun x hx => by
  obtain ⟨t, ht, rfl⟩ := Lev.mem_iff_nth.mp hx
  have ht' : t < h.bases.length := by rw [← g.tot_len]; exact ht
  have a := g.tot_nn ht'
  have b := g.tot_le ht'
  omega
theorem ok_square {f : Addr} {fd : FuncData} (F : Fun K "square_sum" "square_sum" sSquare f fd) (C1 : Cal P w K mg base 1 "squares_of" ["totals"] spSqOf) (C2 : Cal P w K mg base 5 "plan_totals" ["house"] (spList C gTotals)) :
    FnOk P w K mg base CX0 6 f fd ["house"] (spList C gSquare) := by
  refine F.ok scSquare (fun vs H Q E h => ?_) (fun cdv A outer s H vs Q E hr h => ?_)
  · obtain ⟨a, d, h, rfl, _⟩ := h
    rfl
  · obtain ⟨a, d, h, rfl, x, hg, k⟩ := h
    have hr1 : Room 1 _ := hr.mono (by decide : 1 ≤ 5)
    refine ⟨_, pss_one (ps_ret (pe_lst (pa_cons pe_int (pa_cons (pcall C1 hr1 rfl (pa_cons (pcall C2 hr rfl (pa_cons (pv 0) pa_nil)) pa_nil)) pa_nil)))), ?_⟩
    refine ⟨_, rfl, a, d, h, rfl, x, hg, fun q1 H1 s1 hq1 => ⟨q1, _, rfl, hq1, by rw [hg.tot_len]; exact hg.b8, hg.tot_in, fun H2 s2 => ⟨(by show 2 ≤ sizeLine; decide), fun p hp => k p _ (Sm.add (s1.trans s2) hp) upd_same⟩⟩⟩
abbrev sFits : Stmt := top 37
abbrev nFits : List Str := ["house", "limit"]
theorem scFits : FnScope nFits ["house", "limit"] (defScope sFits) := ⟨rfl, rfl, rfl, by decide +kernel, rfl, by decide +kernel, by decide +kernel⟩
abbrev gFits (h : HS) (l : Int) : List Int := [0, if gPeak h ≤ l then 1 else 0]
theorem ok_fits {f : Addr} {fd : FuncData} (F : Fun K "fits_limit" "fits_limit" sFits f fd) (C2 : Cal P w K mg base 6 "plan_peak" ["house"] (spPeak C)) : FnOk P w K mg base CX0 7 f fd ["house", "limit"] (spQ1 C (fun _ _ => True) gFits) := by
  refine F.ok scFits (fun vs H Q E h => ?_) (fun cdv A outer s H vs Q E hr h => ?_)
  · obtain ⟨a, d, h, i, rfl, _⟩ := h
    rfl
  · obtain ⟨a, d, h, i, rfl, x, hg, _, k⟩ := h
    refine ⟨_, pss_one (ps_ret (pe_lst (pa_cons pe_int (pa_cons (pe_ifExp (pt_cmp (pc_le (pcall C2 hr rfl (pa_cons (pv 0) pa_nil)) (pv 1))) pe_int pe_int) pa_nil)))), ?_⟩
    refine ⟨_, rfl, a, d, h, rfl, x, hg, fun H1 s1 => ⟨_, rfl, _, _, rfl, rfl, _, rfl, ?_⟩⟩
    have fin : ∀ z : Int, z = (if gPeak h ≤ i then 1 else 0) → ([V.int 0, V.int z] : List V).length ≤ sizeLine ∧ ∀ p, H1 p = none → Q (.ref p) (upd H1 p (.lst [V.int 0, V.int z])) := fun z ez => by
      refine ⟨(by show 2 ≤ sizeLine; decide), fun p hp => k p _ (Sm.add s1 hp) ?_⟩
      rw [ez]; exact upd_same
    exact dec_if (c := gPeak h ≤ i) (fun c => fin 1 (by rw [if_pos c])) (fun c => fin 0 (by rw [if_neg c]))
abbrev sState : Stmt := top 40
abbrev nState : List Str := ["house"]
theorem scState : FnScope nState ["house"] (defScope sState) := ⟨rfl, rfl, rfl, by decide +kernel, rfl, by decide +kernel, by decide +kernel⟩
abbrev gState (h : HS) : List Int := [0, (h.bases.length : Int), (h.needs.length : Int), h.passed] ++ h.bases
theorem ok_state {f : Addr} {fd : FuncData} (F : Fun K "house_state" "house_state" sState f fd) (B : Bi mg) (T : HC K C) : FnOk P w K mg base CX0 1 f fd ["house"] (spList C gState) := by
  refine F.ok scState (fun vs H Q E h => ?_) (fun cdv A outer s H vs Q E hr h => ?_)
  · obtain ⟨a, d, h, rfl, _⟩ := h
    rfl
  · obtain ⟨a, d, h, rfl, x, hg, k⟩ := h
    refine ⟨_, pss_one (ps_ret (pe_op op_cat (pe_lst (pa_cons pe_int (pa_cons (pe_callB call_len_seq rfl B.len bt_len (pa_cons (pe_fld (pv 0) rfl) pa_nil)) (pa_cons (pe_callB call_len_seq rfl B.len bt_len (pa_cons (pe_fld (pv 0) rfl) pa_nil)) (pa_cons (pe_fld (pv 0) rfl) pa_nil)))))
      (pe_fld (pv 0) rfl))), ?_⟩
    refine ⟨_, rfl, a, C, _, _, _, rfl, x.ins, T.cl, T.bases, hf_bases .., d.pb, _, rfl, .inl (SqL.of x.b), _, rfl, a, C, _, _, _, rfl, x.ins, T.cl, T.needs, hf_needs .., d.pn, _, rfl, .inl (SqL.of x.n), _, rfl, a, C, _, _, _, rfl, x.ins, T.cl, T.passed, hf_passed .., ?_⟩
    refine ⟨(by show 4 ≤ sizeLine; decide), fun p hp => ?_⟩
    have x2 := x.same (Sm.one (o := .lst [V.int 0, V.int ((h.bases.map V.int).length : Nat), V.int ((h.needs.map V.int).length : Nat), V.int h.passed]) hp)
    refine ⟨_, rfl, a, C, _, _, _, rfl, x2.ins, T.cl, T.bases, hf_bases .., p, d.pb, _, _, rfl, rfl, upd_same, x2.b, ?_, fun p2 hp2 => k p2 _ (Sm.add (Sm.one hp) hp2) (upd_same.trans ?_)⟩
    · rw [List.length_map]; exact line_le (by have := hg.b8; show 4 + _ ≤ _; omega)
    · rw [List.map_append, List.length_map, List.length_map]; rfl
abbrev sInfo : Stmt := top 39
abbrev nInfo : List Str := ["house", "load"]
theorem scInfo : FnScope nInfo ["house", "load"] (defScope sInfo) := ⟨rfl, rfl, rfl, by decide +kernel, rfl, by decide +kernel, by decide +kernel⟩
def rowAt (h : HS) (c : Nat) : List Int := (h.rooms[c]?).getD []
abbrev gInfo (h : HS) (c : Int) : List Int := if (h.needs.length : Int) < c then [-5] else [0, Vbemat.nth h.needs (c.toNat - 1)] ++ rowAt h (c.toNat - 1)
theorem ok_info {f : Addr} {fd : FuncData} (F : Fun K "load_info" "load_info" sInfo f fd) (B : Bi mg) (T : HC K C) : FnOk P w K mg base CX0 1 f fd ["house", "load"] (spQ1 C (fun _ c => 1 ≤ c) gInfo) := by
  refine F.ok scInfo (fun vs H Q E h => ?_) (fun cdv A outer s H vs Q E hr h => ?_)
  · obtain ⟨a, d, h, i, rfl, _⟩ := h
    rfl
  · obtain ⟨a, d, h, i, rfl, x, hg, hi, k⟩ := h
    refine ⟨_, pss_cons (ps_if (pt_cmp (pc_gt (pv 1) (pe_callB call_len_seq rfl B.len bt_len (pa_cons (pe_fld (pv 0) rfl) pa_nil)))) (pss_one (ps_ret (pe_lst (pa_cons (pe_un un_neg pe_int) pa_nil)))) pss_nil)
      (pss_one (ps_ret (pe_op op_cat (pe_lst (pa_cons pe_int (pa_cons (pe_ix ix_list (pe_fld (pv 0) rfl) (pe_op op_sub (pv 1) pe_int) (fun _ _ => rfl)) pa_nil)))
        (pe_ix ix_list (pe_fld (pv 0) rfl) (pe_op op_sub (pv 1) pe_int) (fun _ _ => rfl))))), ?_⟩
    refine ifS (pvCmp pvVar (pvLen (pvNeeds T x pvVar) x.n)) (fun hb => ?_) (fun hb => ?_)
    · rw [decide_eq_true_eq, List.length_map] at hb
      refine ⟨_, rfl, (by show 1 ≤ sizeLine; decide), fun p hp => k p _ (Sm.one hp) ?_⟩
      show _ = some (HO.lst ((gInfo h i).map V.int))
      rw [show gInfo h i = [-5] from if_pos hb]; exact upd_same
    · rw [decide_eq_false_iff_not, List.length_map] at hb
      obtain ⟨j, ej, hj⟩ : ∃ j : Nat, i = (j : Int) + 1 ∧ j < h.needs.length := ⟨i.toNat - 1, by omega, by omega⟩
      subst ej
      have hjr : j < h.rooms.length := by rw [← hg.same]; exact hj
      have hjs : j < d.rs.length := by rw [x.rl]; exact hjr
      have e1 : (j : Int) + 1 - 1 = (j : Int) := by omega
      have ha := at_int hj
      refine ⟨_, rfl, a, C, _, _, _, rfl, x.ins, T.cl, T.needs, hf_needs .., _, rfl, _, _, rfl, rfl, d.pn, _, _, _, rfl, rfl, SqL.of x.n, (by rw [e1]; exact ha), (by show 2 ≤ sizeLine; decide), fun p hp => ?_⟩
      have x2 := x.same (Sm.one (o := .lst [V.int 0, V.int (Vbemat.nth h.needs j)]) hp)
      have hrow : h.rooms[j]? = some h.rooms[j] := List.getElem?_eq_getElem hjr
      have hrs : d.rs[j]? = some d.rs[j] := List.getElem?_eq_getElem hjs
      have har : atI (d.rs.map V.ref) (j : Int) = some (.ref d.rs[j]) := atI_nat (by rw [List.getElem?_map, hrs]; rfl)
      refine ⟨_, rfl, a, C, _, _, _, rfl, x2.ins, T.cl, T.rooms, hf_rooms .., _, rfl, _, _, rfl, rfl, d.pr, _, _, _, rfl, rfl, SqL.of x2.r, (by rw [e1]; exact har), ?_⟩
      refine ⟨p, d.rs[j], _, _, rfl, rfl, upd_same, x2.rows j _ _ hrs hrow, ?_, fun p2 hp2 => k p2 _ (Sm.add (Sm.one hp) hp2) (upd_same.trans ?_)⟩
      · rw [List.length_map, hg.row hrow]; exact line_le (by have := hg.b8; show 2 + _ ≤ _; omega)
      · have e2 : gInfo h ((j : Int) + 1) = [0, Vbemat.nth h.needs j] ++ h.rooms[j] := by
          show (if (h.needs.length : Int) < (j : Int) + 1 then [-5] else _) = _
          rw [if_neg (by omega), show ((j : Int) + 1).toNat - 1 = j by omega, rowAt, hrow]; rfl
        rw [e2, List.map_append]; rfl
end
end Hs
end
section
set_option Elab.async false
set_option linter.all false
set_option maxRecDepth 100000
set_option maxHeartbeats 2000000
namespace Hs
open PySem PySem.Spec
open PyProof.Rows hiding St
open L2
theorem drop_at {α : Type} {l : List α} {i : Nat} {z : α} (h : l[i]? = some z) : l.drop i = z :: l.drop (i + 1) := by
  obtain ⟨h1, h2⟩ := List.getElem?_eq_some_iff.mp h
  rw [List.drop_eq_getElem_cons h1, h2]
def grow (last : Int) : Int → List Int → Bool
  | _, [] => true
  | before, p :: r => if p ≤ before ∨ last < p then false else grow last p r
theorem grow_cons (last before p : Int) (r : List Int) : grow last before (p :: r) = if p ≤ before ∨ last < p then false else grow last p r := rfl
def areGrowing (l : List Int) (last : Int) : Bool := grow last 0 l && decide (0 < l.length)
def partOf (l : List Int) : Nat := (l.map fun p => 2 ^ (p.toNat - 1)).sum
theorem grow_mem {last : Int} : ∀ {l : List Int} {before : Int}, grow last before l = true → ∀ b ∈ l, before < b ∧ b ≤ last
  | [], _, _, b, hb => by simp at hb
  | p :: r, before, h, b, hb => by
    unfold grow at h
    by_cases c : p ≤ before ∨ last < p
    · rw [if_pos c] at h; cases h
    · rw [if_neg c] at h
      rcases List.mem_cons.mp hb with e | e
      · subst e; omega
      · have := grow_mem h b e; omega
theorem grow_part {n : Nat} : ∀ {l : List Int} {before : Nat}, before ≤ n → grow n before l = true → partOf l + 2 ^ before ≤ 2 ^ n
  | [], before, hb, _ => by
    show 0 + 2 ^ before ≤ 2 ^ n
    rw [Nat.zero_add]; exact Nat.pow_le_pow_right (by decide) hb
  | p :: r, before, hb, h => by
    unfold grow at h
    by_cases c : p ≤ before ∨ (n : Int) < p
    · rw [if_pos c] at h; cases h
    · rw [if_neg c] at h
      obtain ⟨q, rfl⟩ : ∃ q : Nat, p = (q : Int) + 1 := ⟨p.toNat - 1, by omega⟩
      have hq : before ≤ q := by omega
      have ih := grow_part (n := n) (l := r) (before := q + 1) (by omega) (by rw [show (((q + 1 : Nat)) : Int) = (q : Int) + 1 by omega]; exact h)
      have e : partOf (((q : Int) + 1) :: r) = 2 ^ q + partOf r := by
        unfold partOf
        rw [List.map_cons, List.sum_cons, show ((q : Int) + 1).toNat - 1 = q by omega]
      rw [e]
      have h2 : 2 ^ before ≤ 2 ^ q := Nat.pow_le_pow_right (by decide) hq
      rw [Nat.pow_succ] at ih
      omega
theorem grow_lt {n : Nat} {l : List Int} (h : grow n 0 l = true) : partOf l < 2 ^ n := by
  have := grow_part (n := n) (l := l) (before := 0) (Nat.zero_le _) h
  rw [Nat.pow_zero] at this
  omega
theorem part_sum : ∀ {l : List Int}, (∀ b ∈ l, 1 ≤ b) → (l.map fun b => (1 : Int) * 2 ^ (b - 1).toNat).sum = ((partOf l : Nat) : Int)
  | [], _ => rfl
  | p :: r, h => by
    have hp := h p (List.mem_cons_self ..)
    rw [List.map_cons, List.sum_cons, part_sum fun b hb => h b (List.mem_cons_of_mem _ hb)]
    unfold partOf
    rw [List.map_cons, List.sum_cons, show (p - 1).toNat = p.toNat - 1 by omega, Int.one_mul, two_pow_cast]
    omega
section
variable {P : Program} {w : World} {K : PySem.W.Frag} {mg : Str → Option Value} {base : Heap} {C : Addr}
abbrev sGrow : Stmt := top 31
abbrev nGrow : List Str := ["periods", "last", "before", "period"]
theorem scGrow : FnScope nGrow ["periods", "last"] (defScope sGrow) := ⟨rfl, rfl, rfl, by decide +kernel, rfl, by decide +kernel, by decide +kernel⟩
def spGrow : Sp := fun vs H Q _ => ∃ (p : Addr) (l : List Int) (last : Int), vs = [.ref p, .int last] ∧ LI H p l ∧ ∀ H' : Hp, Same H H' → Q (.bl (areGrowing l last)) H'
theorem ok_grow {f : Addr} {fd : FuncData} (F : Fun K "are_growing" "are_growing" sGrow f fd) (B : Bi mg) : FnOk P w K mg base CX0 1 f fd ["periods", "last"] spGrow := by
  refine F.ok scGrow (fun vs H Q E h => ?_) (fun cdv A outer s H vs Q E hr h => ?_)
  · obtain ⟨p, l, last, rfl, _⟩ := h
    rfl
  · obtain ⟨p, l, last, rfl, hp, k⟩ := h
    have nd := scGrow.nd
    refine ⟨_, pss_cons (ps_set (i := 2) nd rfl (Or.inl rfl) pe_int) (pss_cons (ps_for PassesOwn.never rfl (pi_list (pv 0)) (pg_name (i := 3) nd rfl (Or.inl rfl))
        (pss_cons (ps_if (PW.pt (pw_or (pt_cmp (pc_le (pv 3) (pv 2))) (pw_or1 (pt_cmp (pc_gt (pv 3) (pv 1)))))) (pss_one (ps_ret pe_bl)) pss_nil) (pss_one (ps_set (i := 2) nd rfl (Or.inl rfl) (pv 3)))))
      (pss_one (ps_ret (pe_cmp (pc_gt (pe_callB call_len_seq rfl B.len bt_len (pa_cons (pv 0) pa_nil)) pe_int))))), ?_⟩
    refine ⟨_, rfl, p, rfl, ⟨_, SqL.of hp⟩, forW wk_list (fun i σ H' => ∃ (before : Int) (v : Option V), σ = [some (.ref p), some (.int last), some (.int before), v] ∧ Same H H' ∧ grow last 0 l = grow last before (l.drop i))
      ⟨0, none, rfl, Same.refl H, rfl⟩ (fun _ _ H' _ ⟨_, _, _, s, _⟩ => SqL.of (s _ _ hp)) ?_ ?_⟩
    · rintro i x σ H1 H2 hi ⟨before, v, rfl, s, eg⟩ s2 hx
      obtain ⟨z, hz, rfl⟩ := int_at hx
      rw [drop_at hz, grow_cons] at eg
      refine ifS (pvOr (pvCmp pvVar pvVar) (fun _ => pvCmp pvVar pvVar)) (fun hb => ?_) (fun hb => ?_)
      · rw [Bool.or_eq_true, decide_eq_true_eq, decide_eq_true_eq] at hb
        rw [if_pos hb] at eg
        have := k H2 (s.trans s2)
        unfold areGrowing at this
        rw [eg, Bool.false_and] at this
        exact this
      · rw [Bool.or_eq_false_iff, decide_eq_false_iff_not, decide_eq_false_iff_not] at hb
        rw [if_neg (by omega)] at eg
        exact ⟨_, rfl, z, _, rfl, s.trans s2, eg⟩
    · rintro σ H' ⟨before, v, rfl, s, eg⟩
      rw [List.length_map, List.drop_length] at eg
      have := k H' s
      unfold areGrowing at this
      rw [eg] at this
      refine ⟨_, rfl, p, _, rfl, .inl (SqL.of (s _ _ hp)), _, _, rfl, rfl, ?_⟩
      have e : decide ((0 : Int) < ((l.map V.int).length : Nat)) = (grow last before [] && decide (0 < l.length)) := by
        rw [List.length_map]
        unfold grow
        rw [Bool.true_and]
        exact decide_eq_decide.mpr (by omega)
      rw [← e] at this
      exact this
abbrev sMean : Stmt := top 32
abbrev nMean : List Str := ["house", "periods", "part", "period"]
theorem scMean : FnScope nMean ["house", "periods"] (defScope sMean) := ⟨rfl, rfl, rfl, by decide +kernel, rfl, by decide +kernel, by decide +kernel⟩
abbrev gMean (h : HS) (l : List Int) : List Int := if areGrowing l h.bases.length = true then [0, Vbemat.nth (gForced h) (partOf l), Lev.roundedUp (Vbemat.nth (gLeast h) (partOf l)) l.length] else [-7]
theorem ok_mean {f : Addr} {fd : FuncData} (F : Fun K "forced_and_mean" "forced_and_mean" sMean f fd) (B : Bi mg) (T : HC K C) (C1 : Cal P w K mg base 1 "are_growing" ["periods", "last"] spGrow) (C2 : Cal P w K mg base 3 "forced_sums" ["house"] (spList C gForced))
    (C3 : Cal P w K mg base 4 "least_sums" ["house"] (spList C gLeast)) (C4 : Cal P w K mg base 1 "rounded_up" ["amount", "parts"] spRounded) : FnOk P w K mg base CX0 5 f fd ["house", "periods"] (spQL C (fun _ l => l.length ≤ 8) gMean) := by
  refine F.ok scMean (fun vs H Q E h => ?_) (fun cdv A outer s H vs Q E hr h => ?_)
  · obtain ⟨a, d, h, p, l, rfl, _⟩ := h
    rfl
  · obtain ⟨a, d, h, p, l, rfl, hp, x, hg, hl, k⟩ := h
    have nd := scMean.nd
    have hr1 : Room 1 _ := hr.mono (by decide : 1 ≤ 4)
    have hr3 : Room 3 _ := hr.mono (by decide : 3 ≤ 4)
    refine ⟨_, pss_cons (ps_if (pt_not (pt_val (pcall C1 hr1 rfl (pa_cons (pv 1) (pa_cons (pe_callB call_len_seq rfl B.len bt_len (pa_cons (pe_fld (pv 0) rfl) pa_nil)) pa_nil))))) (pss_one (ps_ret (pe_lst (pa_cons (pe_un un_neg pe_int) pa_nil)))) pss_nil)
      (pss_cons (ps_set (i := 2) nd rfl (Or.inl rfl) (pe_callB (cr_sum rfl) rfl B.sum bt_sum (pa_cons (pe_lc (own := [("period", 3)]) rfl nd (pi_list (pv 1)) (blkOk_by (show blkC nMean (defScope sMean) _ _ = true by decide +kernel))
        (fun _ _ _ _ _ => pg_name (i := 3) nd rfl (Or.inl rfl)) (fun _ _ _ _ _ => pts_nil) (fun _ _ _ _ _ => pe_op op_shl pe_int (pe_op op_sub (pv 3) pe_int))) pa_nil)))
      (pss_one (ps_ret (pe_lst (pa_cons pe_int (pa_cons (pe_ix ix_list (pcall C2 hr3 rfl (pa_cons (pv 0) pa_nil)) (pv 2) (fun _ _ => rfl))
        (pa_cons (pcall C4 hr1 rfl (pa_cons (pe_ix ix_list (pcall C3 hr rfl (pa_cons (pv 0) pa_nil)) (pv 2) (fun _ _ => rfl)) (pa_cons (pe_callB call_len_seq rfl B.len bt_len (pa_cons (pv 1) pa_nil)) pa_nil))) pa_nil))))))), ?_⟩
    refine ⟨_, rfl, _, rfl, a, C, _, _, _, rfl, x.ins, T.cl, T.bases, hf_bases .., d.pb, _, rfl, .inl (SqL.of x.b), p, l, _, rfl, hp, fun H1 s1 => ⟨_, rfl, ?_⟩⟩
    rw [List.length_map]
    cases hgr : areGrowing l (h.bases.length : Nat) with
    | false =>
      refine iteT ?_
      refine ⟨_, rfl, (by show 1 ≤ sizeLine; decide), fun q hq => k q _ (Sm.add s1 hq) ?_⟩
      show _ = some (HO.lst ((gMean h l).map V.int))
      rw [show gMean h l = [-7] from if_neg (by rw [hgr]; exact Bool.false_ne_true)]; exact upd_same
    | true =>
      refine iteF ?_
      have hgr2 := hgr
      unfold areGrowing at hgr2
      rw [Bool.and_eq_true, decide_eq_true_eq] at hgr2
      have hmem := grow_mem hgr2.1
      have hlt := grow_lt hgr2.1
      have hb8 := hg.b8
      have hp1 := s1 _ _ hp
      refine ⟨_, rfl, p, rfl, ⟨_, SqL.of hp1⟩, fun D hD => lcW hD wk_list (by rw [List.length_map]; exact line_le (by omega)) (fun H' s' => SqL.of (s' _ _ hp1)) (fun j => (l[j]?).map fun b => V.int (1 * 2 ^ (b - 1).toNat)) ?_ ?_⟩
      · rintro j y H3 Q' N hj s3 hy k1 k2
        obtain ⟨u, hu, rfl⟩ := int_at hy
        have hm := hmem u (List.mem_of_getElem? hu)
        refine ⟨rfl, iteT (B := N H3) ⟨_, rfl, _, _, rfl, rfl, _, _, rfl, rfl, ⟨by omega, by omega, by decide⟩, k1 _ _ (by rw [hu]; rfl) (Same.refl _)⟩⟩
      · intro H3 s3 h3
        rw [List.length_map, fm_list _ (fun b => 1 * 2 ^ (b - 1).toNat) (fun j u hu => by rw [hu]; rfl)] at h3
        refine ⟨D, _, rfl, SqL.of h3, ?_⟩
        rw [part_sum fun b hb => by have := hmem b hb; omega]
        have x3 := x.same (s1.trans s3)
        refine ⟨_, rfl, a, d, h, rfl, x3, hg, fun q4 H4 s4 hq4 => ⟨_, rfl, q4, _, _, _, rfl, rfl, SqL.of hq4, at_int (by rw [hg.forced_tells.1]; exact hlt), ?_⟩⟩
        refine ⟨_, rfl, a, d, h, rfl, x3.same s4, hg, fun q5 H5 s5 hq5 => ⟨_, rfl, q5, _, _, _, rfl, rfl, SqL.of hq5, at_int (by rw [hg.least_tells.1]; exact hlt), ?_⟩⟩
        refine ⟨_, rfl, p, _, rfl, .inl (SqL.of (s5 _ _ (s4 _ _ (s3 _ _ hp1)))), _, _, rfl, by rw [List.length_map]; omega, by rw [List.length_map]; omega, (by show 3 ≤ sizeLine; decide), fun q6 hq6 => ?_⟩
        refine k q6 _ (Sm.add (s1.trans (s3.trans (s4.trans s5))) hq6) ?_
        show _ = some (HO.lst ((gMean h l).map V.int))
        rw [show gMean h l = _ from if_pos hgr, List.length_map]
        exact upd_same
end
end Hs
end
section
set_option Elab.async false
set_option linter.all false
set_option maxRecDepth 100000
set_option maxHeartbeats 2000000
namespace Hs
open PySem PySem.Spec
open PyProof.Rows hiding St
open L2
theorem find_first {n i : Nat} {p : Nat → Bool} (hi : i < n) (h : p i = true) (hno : ∀ j, j < i → p j = false) : (List.range n).find? p = some i := by
  rw [List.find?_range_eq_some]
  refine ⟨h, List.mem_range.mpr hi, fun j hj => ?_⟩
  rw [hno j hj]; rfl
theorem find_none {n : Nat} {p : Nat → Bool} (hno : ∀ j, j < n → p j = false) : (List.range n).find? p = none := by
  rw [List.find?_eq_none]
  intro j hj
  rw [hno j (List.mem_range.mp hj)]; exact Bool.false_ne_true
def minOf : List Int → Int
  | [] => 0
  | a :: r => r.foldl min a
theorem minOf_eq {l : List Int} {m : Int} (h1 : m ∈ l) (h2 : ∀ y, y ∈ l → m ≤ y) : m = minOf l := by
  cases l with
  | nil => simp at h1
  | cons a r => exact min_fold r a m h1 h2
section
variable {P : Program} {w : World} {K : PySem.W.Frag} {mg : Str → Option Value} {base : Heap} {C : Addr}
abbrev sizesOf (n : Nat) : List Int := Lev.setSums (List.replicate n 1)
def isPeak (h : HS) (p : Nat) : Bool := decide (Lev.roundedUp (Vbemat.nth (gLeast h) p) (Vbemat.nth (sizesOf h.bases.length) p) = gPeak h)
abbrev gBecause (h : HS) : List Int := match (List.range (2 ^ h.bases.length - 1)).find? (fun i => isPeak h (1 + i)) with
  | some i => [0] ++ ((List.range h.bases.length).filter fun t => (1 + i).testBit t).map fun t : Nat => (t : Int) + 1
  | none => [0]
abbrev sPeaks : Stmt := top 33
abbrev nPeaks : List Str := ["house", "peak", "least", "sizes", "part", "period"]
theorem scPeaks : FnScope nPeaks ["house"] (defScope sPeaks) := ⟨rfl, rfl, rfl, by decide +kernel, rfl, by decide +kernel, by decide +kernel⟩
theorem card_pos {p n : Nat} (h1 : 0 < p) (h2 : p < 2 ^ n) : 0 < Lev.card p n := by
  have := Lev.card_lt (p := 0) (q := p) (n := n) (fun t ht => by rw [Nat.zero_testBit] at ht; cases ht) h2 (by omega)
  have e : Lev.card 0 n = 0 := Lev.S_zero_set _ n
  omega
theorem ok_peaks {f : Addr} {fd : FuncData} (F : Fun K "peak_periods" "peak_periods" sPeaks f fd) (B : Bi mg) (T : HC K C) (C1 : Cal P w K mg base 6 "plan_peak" ["house"] (spPeak C)) (C2 : Cal P w K mg base 4 "least_sums" ["house"] (spList C gLeast))
    (C3 : Cal P w K mg base 1 "set_sums" ["values"] spSetSums) (C4 : Cal P w K mg base 1 "rounded_up" ["amount", "parts"] spRounded) (C5 : Cal P w K mg base 1 "holds" ["part", "period"] spHolds) : FnOk P w K mg base CX0 7 f fd ["house"] (spList C gBecause) := by
  refine F.ok scPeaks (fun vs H Q E h => ?_) (fun cdv A outer s H vs Q E hr h => ?_)
  · obtain ⟨a, d, h, rfl, _⟩ := h
    rfl
  · obtain ⟨a, d, h, rfl, x, hg, k⟩ := h
    have nd := scPeaks.nd
    have hr1 : Room 1 _ := hr.mono (by decide : 1 ≤ 6)
    have hr4 : Room 4 _ := hr.mono (by decide : 4 ≤ 6)
    refine ⟨_, pss_cons (ps_set (i := 1) nd rfl (Or.inl rfl) (pcall C1 hr rfl (pa_cons (pv 0) pa_nil)))
      (pss_cons (ps_set (i := 2) nd rfl (Or.inl rfl) (pcall C2 hr4 rfl (pa_cons (pv 0) pa_nil)))
      (pss_cons (ps_set (i := 3) nd rfl (Or.inl rfl) (pcall C3 hr1 rfl (pa_cons (pe_op op_rep (pe_lst (pa_cons pe_int pa_nil)) (pe_callB call_len_seq rfl B.len bt_len (pa_cons (pe_fld (pv 0) rfl) pa_nil))) pa_nil)))
      (pss_cons (ps_for PassesOwn.never rfl (pi_range2 rfl B.range (pa_cons pe_int (pa_cons (pe_callB call_len_seq rfl B.len bt_len (pa_cons (pv 2) pa_nil)) pa_nil))) (pg_name (i := 4) nd rfl (Or.inr rfl))
        (pss_one (ps_if (pt_cmp (pc_eqI (pcall C4 hr1 rfl (pa_cons (pe_ix ix_list (pv 2) (pv 4) (fun _ _ => rfl)) (pa_cons (pe_ix ix_list (pv 3) (pv 4) (fun _ _ => rfl)) pa_nil))) (pv 1)))
          (pss_one (ps_ret (pe_op op_cat (pe_lst (pa_cons pe_int pa_nil)) (pe_lc (own := [("period", 5)]) rfl nd (pi_range1 rfl B.range (pa_cons (pe_callB call_len_seq rfl B.len bt_len (pa_cons (pe_fld (pv 0) rfl) pa_nil)) pa_nil))
            (blkOk_by (show blkC nPeaks (defScope sPeaks) _ _ = true by decide +kernel)) (fun _ _ _ _ _ => pg_name (i := 5) nd rfl (Or.inl rfl))
            (fun _ _ _ _ _ => pts_one (pt_cmp (pc_eqI (pcall C5 hr1 rfl (pa_cons (pv 4) (pa_cons (pv 5) pa_nil))) pe_int))) (fun _ _ _ _ _ => pe_op op_add (pv 5) pe_int))))) pss_nil)))
      (pss_one (ps_ret (pe_lst (pa_cons pe_int pa_nil))))))), ?_⟩
    have hb8 := hg.b8
    have hll := hg.least_tells.1
    have h2n := pow8 hb8
    have hp2 := Nat.two_pow_pos h.bases.length
    refine ⟨_, rfl, a, d, h, rfl, x, hg, fun H1 s1 => ⟨_, rfl, a, d, h, rfl, x.same s1, hg, fun lp H2 s2 hlp => ?_⟩⟩
    have s12 := s1.trans s2
    refine rep_rd (n := h.bases.length) hb8 (fun H' s' => ?_) (fun op H3 s3 hop => ?_)
    · have z := pvLen (K := K) (pvBases T (x.same (s12.trans s')) (ta := tVar 0) (σ := [some (.ref a), some (.int (gPeak h)), some (.ref lp), none, none, none]) pvVar) ((s12.trans s') _ _ x.b)
      rw [List.length_map] at z
      exact z
    refine ⟨op, _, rfl, hop, by rw [List.length_replicate]; exact hb8, fun sp H4 s4 hsp => ?_⟩
    have s14 := s12.trans (s3.trans s4)
    have hlp4 := s4 _ _ (s3 _ _ hlp)
    have hZ := Lev.sizes_tells h.bases.length
    have hm : (((gLeast h).map V.int).length : Int) - 1 = ((2 ^ h.bases.length - 1 : Nat) : Int) := by rw [List.length_map, hll]; omega
    refine ⟨_, rfl, lp, _, rfl, .inl (SqL.of hlp4), _, _, rfl, ⟨by omega, by omega, by omega, by rw [List.length_map, hll]; omega⟩, forW wk_range (fun i σ H' => ∃ v4 : Option V, σ = [some (.ref a), some (.int (gPeak h)), some (.ref lp), some (.ref sp), v4, none] ∧ Same H4 H' ∧ ∀ j, j < i → isPeak h (1 + j) = false)
      ⟨none, rfl, Same.refl H4, fun j hj => absurd hj (Nat.not_lt_zero j)⟩ (fun _ _ _ _ _ => trivial) ?_ ?_⟩
    · rintro i y σ H5 H6 hi ⟨v4, rfl, s5, hno⟩ s6 hy
      have hi : i < 2 ^ h.bases.length - 1 := by rw [hm, Int.toNat_natCast] at hi; exact hi
      have ey : (1 : Int) + (i : Nat) = ((1 + i : Nat) : Int) := by omega
      rw [ey] at hy
      subst hy
      have s56 := s5.trans s6
      have hil : 1 + i < (gLeast h).length := by rw [hll]; omega
      have his : 1 + i < (sizesOf h.bases.length).length := by rw [hZ.1]; omega
      have ez : Vbemat.nth (Lev.setSums (List.replicate h.bases.length 1)) (1 + i) = Lev.card (1 + i) h.bases.length := hZ.2 (1 + i) (by omega)
      have c1 := card_pos (p := 1 + i) (n := h.bases.length) (by omega) (by omega)
      have c2 := card_small (1 + i) h.bases.length
      refine pvIx pvVar pvVar (s56 _ _ hlp4) (at_int hil) _ (pvIx pvVar pvVar (s56 _ _ hsp) (at_int his) _ ?_)
      refine ⟨_, _, rfl, by omega, by omega, _, rfl, _, _, rfl, rfl, _, rfl, ?_⟩
      refine dec_if (c := Lev.roundedUp (Vbemat.nth (gLeast h) (1 + i)) (Vbemat.nth (sizesOf h.bases.length) (1 + i)) = gPeak h) (fun c => ?_) (fun c => ?_)
      · have ef : (List.range (2 ^ h.bases.length - 1)).find? (fun i => isPeak h (1 + i)) = some i := find_first hi (decide_eq_true c) hno
        refine ⟨(by show 1 ≤ sizeLine; decide), fun r1 hr1n => ?_⟩
        have s16 := s14.trans s56
        have x7 := x.same (s16.trans (Sm.one (o := .lst [V.int 0]) hr1n))
        have hmb : (((h.bases.map V.int).length : Nat) : Int).toNat = h.bases.length := by rw [List.length_map]; omega
        refine ⟨_, rfl, a, C, _, _, _, rfl, x7.ins, T.cl, T.bases, hf_bases .., d.pb, _, rfl, .inl (SqL.of x7.b), _, rfl, by omega, by rw [List.length_map]; omega, fun D hD => lcW hD wk_range (by rw [hmb]; exact line_le (by omega)) (fun _ _ => trivial) (fun t => if (1 + i).testBit t = true then some (V.int ((t : Int) + 1)) else none) ?_ ?_⟩
        · rintro t y H8 Q' N ht s8 hy k1 k2
          rw [Int.zero_add] at hy
          subst hy
          refine ⟨rfl, ?_⟩
          refine ⟨_, rfl, _, rfl, 1 + i, t, rfl, _, _, rfl, rfl, _, rfl, ?_⟩
          exact bit_if (fun hb => ⟨_, rfl, _, _, rfl, rfl, k1 _ _ (by rw [if_pos hb]) (Same.refl _)⟩) (fun hb => k2 _ (by rw [hb]; rfl) (Same.refl _))
        · intro H8 s8 h8
          rw [hmb, fm_filter (fun t => (1 + i).testBit t) (fun t => V.int ((t : Int) + 1))] at h8
          refine ⟨r1, D, _, _, rfl, rfl, s8 _ _ upd_same, h8, ?_, fun r2 hr2 => k r2 _ (Sm.add (s16.trans ((Sm.one hr1n).trans s8)) hr2) (upd_same.trans ?_)⟩
          · rw [List.length_map]
            have := List.length_filter_le (fun t => (1 + i).testBit t) (List.range h.bases.length)
            rw [List.length_range] at this
            exact line_le (by show 1 + _ ≤ _; omega)
          · have e : gBecause h = [0] ++ ((List.range h.bases.length).filter fun t => (1 + i).testBit t).map fun t : Nat => (t : Int) + 1 := by
              show (match (List.range (2 ^ h.bases.length - 1)).find? (fun i => isPeak h (1 + i)) with | some i => _ | none => _) = _
              rw [ef]
            rw [e, List.map_append, List.map_map]; rfl
      · refine ⟨_, rfl, s56, fun j hj => ?_⟩
        by_cases hji : j < i
        · exact hno j hji
        · have e : j = i := by omega
          subst e
          exact decide_eq_false c
    · rintro σ H5 ⟨v4, rfl, s5, hno⟩
      have en : (List.range (2 ^ h.bases.length - 1)).find? (fun i => isPeak h (1 + i)) = none := find_none fun j hj => hno j (by rw [hm, Int.toNat_natCast]; exact hj)
      refine ⟨(by show 1 ≤ sizeLine; decide), fun r1 hr1n => k r1 _ (Sm.add (s14.trans s5) hr1n) (upd_same.trans ?_)⟩
      have e : gBecause h = [0] := by
        show (match (List.range (2 ^ h.bases.length - 1)).find? (fun i => isPeak h (1 + i)) with | some i => _ | none => _) = _
        rw [en]
      rw [e]; rfl
abbrev sSlack : Stmt := top 36
abbrev nSlack : List Str := ["house", "source", "to", "losing", "part", "free"]
theorem scSlack : FnScope nSlack ["house", "source", "to"] (defScope sSlack) := ⟨rfl, rfl, rfl, by decide +kernel, rfl, by decide +kernel, by decide +kernel⟩
def losing (h : HS) (s t : Nat) : List Int := ((List.range (gFree h).length).filter fun p => p.testBit s && !p.testBit t).map (Vbemat.nth (gFree h))
abbrev gSlack (h : HS) (s t : Int) : List Int := if (h.bases.length : Int) < max s t then [-8] else if s = t then [-7] else [0, minOf (losing h (s.toNat - 1) (t.toNat - 1))]
theorem bit_gt (p s t : Nat) : decide (bit p t < bit p s) = (p.testBit s && !p.testBit t) := by
  unfold bit
  cases p.testBit s <;> cases p.testBit t <;> rfl
theorem ok_slack {f : Addr} {fd : FuncData} (F : Fun K "slack_between" "slack_between" sSlack f fd) (B : Bi mg) (T : HC K C) (C1 : Cal P w K mg base 7 "free_sums" ["house"] (spList C gFree)) (C5 : Cal P w K mg base 1 "holds" ["part", "period"] spHolds) :
    FnOk P w K mg base CX0 8 f fd ["house", "source", "to"] (spQ2 C (fun _ s t => 1 ≤ s ∧ 1 ≤ t) gSlack) := by
  refine F.ok scSlack (fun vs H Q E h => ?_) (fun cdv A outer s H vs Q E hr h => ?_)
  · obtain ⟨a, d, h, i, j, rfl, _⟩ := h
    rfl
  · obtain ⟨a, d, h, i, j, rfl, x, hg, ⟨hi, hj⟩, k⟩ := h
    have nd := scSlack.nd
    have hr1 : Room 1 _ := hr.mono (by decide : 1 ≤ 7)
    refine ⟨_, pss_cons (ps_if (pt_cmp (pc_gt (pe_callB (call_max2 rfl) rfl B.max bt_max (pa_cons (pv 1) (pa_cons (pv 2) pa_nil))) (pe_callB call_len_seq rfl B.len bt_len (pa_cons (pe_fld (pv 0) rfl) pa_nil)))) (pss_one (ps_ret (pe_lst (pa_cons (pe_un un_neg pe_int) pa_nil)))) pss_nil)
      (pss_cons (ps_if (pt_cmp (pc_eqI (pv 1) (pv 2))) (pss_one (ps_ret (pe_lst (pa_cons (pe_un un_neg pe_int) pa_nil)))) pss_nil)
      (pss_cons (ps_setLc (i := 3) (own := [("part", 4), ("free", 5)]) rfl nd rfl rfl (sw_true rfl rfl rfl (by decide +kernel)) (pi_enum rfl B.enumerate (pa_cons (pcall C1 hr rfl (pa_cons (pv 0) pa_nil)) pa_nil))
        (blkOk_by (show blkC nSlack (defScope sSlack) _ _ = true by decide +kernel)) (fun _ _ _ _ _ => pg_pair (K := K) (i := 4) (j := 5) rfl rfl nd rfl rfl (Or.inl rfl) (Or.inl rfl))
        (fun _ _ _ _ _ => pts_one (pt_cmp (pc_gt (pcall C5 hr1 rfl (pa_cons (pv 4) (pa_cons (pe_op op_sub (pv 1) pe_int) pa_nil))) (pcall C5 hr1 rfl (pa_cons (pv 4) (pa_cons (pe_op op_sub (pv 2) pe_int) pa_nil)))))) (fun _ _ _ _ _ => pv 5))
      (pss_one (ps_ret (pe_lst (pa_cons pe_int (pa_cons (pe_callB (cr_min rfl) rfl B.min bt_min (pa_cons (pv 3) pa_nil)) pa_nil))))))), ?_⟩
    have fin1 : ∀ (z : Int), gSlack h i j = [z] → ∀ p, H p = none → Q (.ref p) (upd H p (.lst [V.int z])) := fun z ez p hp => k p _ (Sm.one hp) (by rw [ez]; exact upd_same)
    refine ⟨_, rfl, _, rfl, _, _, rfl, _, rfl, a, C, _, _, _, rfl, x.ins, T.cl, T.bases, hf_bases .., d.pb, _, rfl, .inl (SqL.of x.b), _, _, rfl, rfl, _, rfl, ?_⟩
    rw [max_if, List.length_map]
    refine dec_if (c := (h.bases.length : Int) < max i j) (fun c => ?_) (fun c => ?_)
    · exact ⟨_, rfl, (by show 1 ≤ sizeLine; decide), fin1 (-8) (if_pos c)⟩
    refine ⟨_, rfl, _, rfl, _, _, rfl, rfl, _, rfl, ?_⟩
    refine dec_if (c := i = j) (fun e => ?_) (fun e => ?_)
    · exact ⟨_, rfl, (by show 1 ≤ sizeLine; decide), fin1 (-7) (by show (if _ then _ else _) = _; rw [if_neg c, if_pos e])⟩
    obtain ⟨s', es⟩ : ∃ s' : Nat, i = (s' : Int) + 1 := ⟨i.toNat - 1, by omega⟩
    obtain ⟨t', et⟩ : ∃ t' : Nat, j = (t' : Int) + 1 := ⟨j.toNat - 1, by omega⟩
    subst es et
    have hs' : s' < h.bases.length := by omega
    have hst : s' ≠ t' := by omega
    have hfl := hg.free_len
    have h2n := pow8 hg.b8
    refine ⟨_, rfl, a, d, h, rfl, x, hg, fun fp H1 s1 hfp => ⟨fp, _, rfl, SqL.of hfp, fun D hD => lcW hD wk_enum (by rw [List.length_map]; exact line_le (by omega)) (fun H' s' => SqL.of (s' _ _ hfp)) (fun p => if (p.testBit s' && !p.testBit t') = true then some (V.int (Vbemat.nth (gFree h) p)) else none) ?_ ?_⟩⟩
    · rintro p yy H2 Q' N hp s2 ⟨T4, z4, rfl, hT4, hz4⟩ k1 k2
      obtain ⟨u, hu, rfl⟩ := int_at hz4
      refine gPair hT4 ⟨rfl, ?_⟩
      have e1 : (s' : Int) + 1 - 1 = (s' : Int) := by omega
      have e2 : (t' : Int) + 1 - 1 = (t' : Int) := by omega
      refine ⟨_, rfl, _, rfl, _, _, rfl, rfl, p, s', (by show [V.int (p : Int), V.int ((s' : Int) + 1 - 1)] = _; rw [e1]), _, rfl, _, rfl, _, _, rfl, rfl, p, t', (by show [V.int (p : Int), V.int ((t' : Int) + 1 - 1)] = _; rw [e2]), _, _, rfl, rfl, _, rfl, ?_⟩
      refine dec_if (c := bit p t' < bit p s') (fun c => ?_) (fun c => ?_)
      · exact ⟨_, rfl, k1 _ _ (by rw [← bit_gt, decide_eq_true c, if_pos rfl, nth_of hu]) (Same.refl _)⟩
      · exact k2 _ (by rw [← bit_gt, decide_eq_false c]; rfl) (Same.refl _)
    · intro H2 s2 h2
      rw [List.length_map, fm_filter (fun p => p.testBit s' && !p.testBit t') (fun p => V.int (Vbemat.nth (gFree h) p))] at h2
      have h2' : LI H2 D (losing h s' t') := h2.trans (by unfold losing; rw [List.map_map]; rfl)
      have hmem : 2 ^ s' ∈ (List.range (gFree h).length).filter fun p => p.testBit s' && !p.testBit t' := by
        rw [List.mem_filter, List.mem_range, hfl]
        refine ⟨Nat.pow_lt_pow_right (by decide) hs', ?_⟩
        rw [Lev.two_pow_bit, Lev.two_pow_bit, decide_eq_true rfl, decide_eq_false hst]; rfl
      have hpos : 0 < (losing h s' t').length := List.length_pos_of_mem (List.mem_map.mpr ⟨_, hmem, rfl⟩)
      refine ⟨_, rfl, D, losing h s' t', rfl, SqL.of h2', hpos, fun m hm1 hm2 => ?_⟩
      refine ⟨(by show 2 ≤ sizeLine; decide), fun p hp => k p _ (Sm.add (s1.trans s2) hp) (upd_same.trans ?_)⟩
      have e : gSlack h ((s' : Int) + 1) ((t' : Int) + 1) = [0, minOf (losing h s' t')] := by
        show (if _ then _ else if _ then _ else _) = _
        rw [if_neg c, if_neg e, show ((s' : Int) + 1).toNat - 1 = s' by omega, show ((t' : Int) + 1).toNat - 1 = t' by omega]
      rw [e, ← minOf_eq hm1 hm2]; rfl
abbrev sCould : Stmt := top 38
abbrev nCould : List Str := ["house", "load", "rooms", "peaks", "insides", "own", "greatest", "part", "least", "outside"]
theorem scCould : FnScope nCould ["house", "load"] (defScope sCould) := ⟨rfl, rfl, rfl, by decide +kernel, rfl, by decide +kernel, by decide +kernel⟩
def couldStep (peaks insides own least : List Int) (g : Int) (p : Nat) : Int :=
  min g (Vbemat.nth peaks p - Vbemat.nth least p + Vbemat.nth own p + (Vbemat.nth insides (insides.length - 1) - Vbemat.nth insides p))
def couldOf (h : HS) (c : Nat) : Int :=
  (List.range (gLeast h).length).foldl (couldStep (Lev.setSums (List.replicate h.bases.length (gPeak h))) (Lev.setSums (rowAt h c)) (Lev.forcedBy (Vbemat.nth h.needs c) (rowAt h c)) (gLeast h)) 1000000000
abbrev gCould (h : HS) (c : Int) : List Int := if (h.needs.length : Int) < c then [-5] else [0, couldOf h (c.toNat - 1)]
theorem ok_could {f : Addr} {fd : FuncData} (F : Fun K "greatest_need" "greatest_need" sCould f fd) (B : Bi mg) (T : HC K C) (hG : ∃ t, mg "GREATEST_AMOUNT" = some (.int 1000000000 t)) (C1 : Cal P w K mg base 6 "plan_peak" ["house"] (spPeak C)) (C2 : Cal P w K mg base 4 "least_sums" ["house"] (spList C gLeast))
    (C3 : Cal P w K mg base 1 "set_sums" ["values"] spSetSums) (C4 : Cal P w K mg base 2 "forced_by" ["need", "rooms"] spForcedBy) : FnOk P w K mg base CX0 7 f fd ["house", "load"] (spQ1 C (fun _ c => 1 ≤ c) gCould) := by
  refine F.ok scCould (fun vs H Q E h => ?_) (fun cdv A outer s H vs Q E hr h => ?_)
  · obtain ⟨a, d, h, i, rfl, _⟩ := h
    rfl
  · obtain ⟨a, d, h, i, rfl, x, hg, hi, k⟩ := h
    have nd := scCould.nd
    have hr1 : Room 1 _ := hr.mono (by decide : 1 ≤ 6)
    have hr2 : Room 2 _ := hr.mono (by decide : 2 ≤ 6)
    have hr4 : Room 4 _ := hr.mono (by decide : 4 ≤ 6)
    obtain ⟨tG, hG⟩ := hG
    refine ⟨_, pss_cons (ps_if (pt_cmp (pc_gt (pv 1) (pe_callB call_len_seq rfl B.len bt_len (pa_cons (pe_fld (pv 0) rfl) pa_nil)))) (pss_one (ps_ret (pe_lst (pa_cons (pe_un un_neg pe_int) pa_nil)))) pss_nil)
      (pss_cons (ps_set (i := 2) nd rfl (Or.inl rfl) (pe_ix ix_list (pe_fld (pv 0) rfl) (pe_op op_sub (pv 1) pe_int) (fun _ _ => rfl)))
      (pss_cons (ps_set (i := 3) nd rfl (Or.inl rfl) (pcall C3 hr1 rfl (pa_cons (pe_op op_rep (pe_lst (pa_cons (pcall C1 hr rfl (pa_cons (pv 0) pa_nil)) pa_nil)) (pe_callB call_len_seq rfl B.len bt_len (pa_cons (pe_fld (pv 0) rfl) pa_nil))) pa_nil)))
      (pss_cons (ps_set (i := 4) nd rfl (Or.inl rfl) (pcall C3 hr1 rfl (pa_cons (pv 2) pa_nil)))
      (pss_cons (ps_set (i := 5) nd rfl (Or.inl rfl) (pcall C4 hr2 rfl (pa_cons (pe_ix ix_list (pe_fld (pv 0) rfl) (pe_op op_sub (pv 1) pe_int) (fun _ _ => rfl)) (pa_cons (pv 2) pa_nil))))
      (pss_cons (ps_set (i := 6) nd rfl (Or.inl rfl) (pe_glob rfl hG (show RelV (.int 1000000000) _ from ⟨tG, rfl⟩)))
      (pss_cons (ps_for PassesOwn.never rfl (pi_enum rfl B.enumerate (pa_cons (pcall C2 hr4 rfl (pa_cons (pv 0) pa_nil)) pa_nil)) (pg_pair (K := K) (i := 7) (j := 8) rfl rfl nd rfl rfl (Or.inl rfl) (Or.inl rfl))
        (pss_cons (ps_set (i := 9) nd rfl (Or.inl rfl) (pe_op op_sub (pe_ix ix_list (pv 4) (pe_un un_neg pe_int) (fun _ _ => rfl)) (pe_ix ix_list (pv 4) (pv 7) (fun _ _ => rfl))))
        (pss_one (ps_set (i := 6) nd rfl (Or.inl rfl) (pe_callB (call_min2 rfl) rfl B.min bt_min (pa_cons (pv 6) (pa_cons (pe_op op_add (pe_op op_add (pe_op op_sub (pe_ix ix_list (pv 3) (pv 7) (fun _ _ => rfl)) (pv 8)) (pe_ix ix_list (pv 5) (pv 7) (fun _ _ => rfl))) (pv 9)) pa_nil)))))))
      (pss_one (ps_ret (pe_lst (pa_cons pe_int (pa_cons (pv 6) pa_nil))))))))))), ?_⟩
    refine ifS (pvCmp pvVar (pvLen (pvNeeds T x pvVar) x.n)) (fun hb => ?_) (fun hb => ?_)
    · rw [decide_eq_true_eq, List.length_map] at hb
      refine ⟨_, rfl, (by show 1 ≤ sizeLine; decide), fun p hp => k p _ (Sm.one hp) ?_⟩
      show _ = some (HO.lst ((gCould h i).map V.int))
      rw [show gCould h i = [-5] from if_pos hb]; exact upd_same
    · rw [decide_eq_false_iff_not, List.length_map] at hb
      obtain ⟨c, ec, hc⟩ : ∃ c : Nat, i = (c : Int) + 1 ∧ c < h.needs.length := ⟨i.toNat - 1, by omega, by omega⟩
      subst ec
      have hcr : c < h.rooms.length := by rw [← hg.same]; exact hc
      have hcs : c < d.rs.length := by rw [x.rl]; exact hcr
      have e1 : (c : Int) + 1 - 1 = (c : Int) := by omega
      have hrow : h.rooms[c]? = some h.rooms[c] := List.getElem?_eq_getElem hcr
      have hrs : d.rs[c]? = some d.rs[c] := List.getElem?_eq_getElem hcs
      have har : atI (d.rs.map V.ref) (c : Int) = some (.ref d.rs[c]) := atI_nat (by rw [List.getElem?_map, hrs]; rfl)
      have hrl := hg.row hrow
      have hb8 := hg.b8
      have h2n := pow8 hb8
      have hra : rowAt h c = h.rooms[c] := by unfold rowAt; rw [hrow]; rfl
      refine ⟨_, rfl, a, C, _, _, _, rfl, x.ins, T.cl, T.rooms, hf_rooms .., _, rfl, _, _, rfl, rfl, d.pr, _, _, _, rfl, rfl, SqL.of x.r, (by rw [e1]; exact har), ?_⟩
      refine ⟨_, rfl, a, d, h, rfl, x, hg, fun H1 s1 => ⟨(by show 1 ≤ sizeLine; decide), fun l1 hl1 => ?_⟩⟩
      have x1 := x.same (s1.trans (Sm.one (o := .lst [V.int (gPeak h)]) hl1))
      refine ⟨_, rfl, a, C, _, _, _, rfl, x1.ins, T.cl, T.bases, hf_bases .., d.pb, _, rfl, .inl (SqL.of x1.b), l1, _, _, rfl, rfl, upd_same, by omega, by rw [List.length_map]; omega, ?_, fun l2 hl2 => ?_⟩
      · rw [List.length_map, Int.toNat_natCast]; exact line_le (by show 1 * _ ≤ _; omega)
      have s2 : Same H (upd (upd H1 l1 (.lst [V.int (gPeak h)])) l2 (.lst (List.replicate (((h.bases.map V.int).length : Nat) : Int).toNat [V.int (gPeak h)]).flatten)) := Sm.add (Sm.add s1 hl1) hl2
      have hl2' : LI (upd (upd H1 l1 (.lst [V.int (gPeak h)])) l2 (.lst (List.replicate (((h.bases.map V.int).length : Nat) : Int).toNat [V.int (gPeak h)]).flatten)) l2 (List.replicate h.bases.length (gPeak h)) := by
        refine upd_same.trans ?_
        rw [Int.toNat_natCast, List.length_map, rep_flat]
      generalize (upd (upd H1 l1 (.lst [V.int (gPeak h)])) l2 (.lst (List.replicate (((h.bases.map V.int).length : Nat) : Int).toNat [V.int (gPeak h)]).flatten)) = H2 at s2 hl2'
      refine ⟨l2, _, rfl, hl2', by rw [List.length_replicate]; exact hb8, fun pk H3 s3 hpk => ?_⟩
      have s23 := s2.trans s3
      refine ⟨_, rfl, d.rs[c], h.rooms[c], rfl, s23 _ _ (x.rows c _ _ hrs hrow), by omega, fun ins H4 s4 hins => ?_⟩
      have s24 := s23.trans s4
      have x4 := x.same s24
      refine ⟨_, rfl, a, C, _, _, _, rfl, x4.ins, T.cl, T.needs, hf_needs .., _, rfl, _, _, rfl, rfl, d.pn, _, _, _, rfl, rfl, SqL.of x4.n, (by rw [e1]; exact at_int hc), ?_⟩
      refine ⟨_, rfl, _, d.rs[c], h.rooms[c], rfl, x4.rows c _ _ hrs hrow, by omega, fun ow H5 s5 how => ?_⟩
      have s25 := s24.trans s5
      refine ⟨_, rfl, a, d, h, rfl, x.same s25, hg, fun le H6 s6 hle => ?_⟩
      have s26 := s25.trans s6
      have hpk6 := s6 _ _ (s5 _ _ (s4 _ _ hpk))
      have hins6 := s6 _ _ (s5 _ _ hins)
      have how6 := s6 _ _ how
      have hll := hg.least_tells.1
      have hpl : (Lev.setSums (List.replicate h.bases.length (gPeak h))).length = 2 ^ h.bases.length := by rw [Lev.length_setSums, List.length_replicate]
      have hil : (Lev.setSums h.rooms[c]).length = 2 ^ h.bases.length := by rw [Lev.length_setSums, hrl]
      have hol : (Lev.forcedBy (Vbemat.nth h.needs c) h.rooms[c]).length = 2 ^ h.bases.length := by rw [forcedBy_len, hil]
      refine ⟨le, _, rfl, SqL.of hle, forW wk_enum (fun j σ H' => ∃ (g : Int) (v7 v8 v9 : Option V), σ = [some (.ref a), some (.int ((c : Int) + 1)), some (.ref d.rs[c]), some (.ref pk), some (.ref ins), some (.ref ow), some (.int g), v7, v8, v9] ∧ Same H6 H' ∧
          g = (List.range j).foldl (couldStep (Lev.setSums (List.replicate h.bases.length (gPeak h))) (Lev.setSums h.rooms[c]) (Lev.forcedBy (Vbemat.nth h.needs c) h.rooms[c]) (gLeast h)) 1000000000)
        ⟨_, none, none, none, rfl, Same.refl H6, rfl⟩ (fun _ _ H' _ ⟨_, _, _, _, _, s, _⟩ => SqL.of (s _ _ hle)) ?_ ?_⟩
      · rintro j y σ H7 H8 hj ⟨g, v7, v8, v9, rfl, s7, eg⟩ s8 ⟨T4, z4, rfl, hT4, hz4⟩
        obtain ⟨u, hu, rfl⟩ := int_at hz4
        rw [List.length_map, hll] at hj
        have s78 := s7.trans s8
        refine gPair hT4 ?_
        have hlast : 0 < (Lev.setSums h.rooms[c]).length := setSums_pos _
        refine pvI (pvIx pvVar (show PvE _ _ _ (V.int (-1)) from fun _ q => ⟨1, rfl, q⟩) (s78 _ _ hins6) (at_last hlast)) (pvIx pvVar pvVar (s78 _ _ hins6) (at_int (by rw [hil]; exact hj))) _ ?_
        refine ⟨_, rfl, pvI (pvI (pvI (pvIx pvVar pvVar (s78 _ _ hpk6) (at_int (by rw [hpl]; exact hj))) pvVar) (pvIx pvVar pvVar (s78 _ _ how6) (at_int (by rw [hol]; exact hj)))) pvVar _ ⟨_, _, rfl, ?_⟩⟩
        refine ⟨_, _, _, _, rfl, s78, ?_⟩
        rw [range_fold, ← eg, min_if]
        unfold couldStep
        rw [nth_of hu]
      · rintro σ H7 ⟨g, v7, v8, v9, rfl, s7, eg⟩
        rw [List.length_map] at eg
        refine ⟨_, rfl, (by show 2 ≤ sizeLine; decide), fun p hp => k p _ (Sm.add (s26.trans s7) hp) (upd_same.trans ?_)⟩
        have e : gCould h ((c : Int) + 1) = [0, g] := by
          show (if _ then _ else _) = _
          rw [if_neg (by omega), show ((c : Int) + 1).toNat - 1 = c by omega, couldOf, hra, ← eg]
        rw [e]; rfl
end
end Hs
end
section
set_option Elab.async false
set_option linter.all false
set_option maxRecDepth 100000
set_option maxHeartbeats 4000000
namespace Hs
open PySem PySem.Spec
open PyProof.Rows hiding St
open L2
structure Drw (prog : Program) (w : World) (it l : Addr) (xs : Array Value) (It : Nat → Heap → Prop) (Src : Heap → Prop) : Prop where
  item : ∀ (A : Around) (i : Nat) (s : Shared) (x : Value) (Q : Value → Shared → Prop) (E : Value → Shared → Prop), It i s.heap → Src s.heap → xs[i]? = some x →
    (∀ h', It (i + 1) h' → Heap.SameBut it s.heap h' → Q x { s with heap := h' }) → wpAny (model prog w) A (Builtin.SmallTypes.nextOf (.ref it)) Q E s
  fin : ∀ (A : Around) (i : Nat) (s : Shared) (Q : Value → Shared → Prop) (E : Value → Shared → Prop), A.handled = none → It i s.heap → Src s.heap → xs[i]? = none →
    (∀ h' e, Heap.ExtBut it s.heap h' → (∃ o, h'.get? e = some o ∧ o.cls = .type "StopIteration") → E (.ref e) { s with heap := h' }) → wpAny (model prog w) A (Builtin.SmallTypes.nextOf (.ref it)) Q E s
  keep : ∀ i h h', It i h → (∀ o, h.get? it = some o → h'.get? it = some o) → It i h'
  skeep : ∀ h h', Src h → (∀ o, h.get? l = some o → h'.get? l = some o) → Src h'
  ob : ∀ i h, It i h → ∃ o, h.get? it = some o ∧ ∀ v, o.data ≠ .cell v
theorem drw_list {prog : Program} {w : World} {it l : Addr} {xs : Array Value} : Drw prog w it l xs (fun i h => h.IsListIter it l i) (fun h => h.IsList l xs) where
  item := fun A i s x Q E h1 h2 hx hQ => wpAny_nextOf_list_item h1 h2 hx hQ
  fin := fun A i s Q E hh h1 h2 hx hE => wpAny_nextOf_list_end hh h1 h2 hx hE
  keep := fun i h h' st k => st.at k
  skeep := fun h h' st k => st.at k
  ob := fun i h ⟨o, e, _, d⟩ => ⟨o, e, fun v z => by rw [d] at z; cases z⟩
theorem drw_tup {prog : Program} {w : World} {it l : Addr} {xs : Array Value} : Drw prog w it l xs (fun i h => h.IsTupleIter it l i) (fun h => h.IsTuple l xs) where
  item := fun A i s x Q E hit ht hx hQ => by
    obtain ⟨o1, g1, c1, d1⟩ := id hit
    obtain ⟨o2, g2, _, n2, d2⟩ := ht
    unfold Builtin.SmallTypes.nextOf
    refine wpAny_bind (wpAny_callSpecial?_slot (name := Str.ofString "__next__") hit.typeIs PySem.F.slot_tuple_iterator_next (wpAny_call_entry PySem.F.slot_tuple_iterator_next hit.typeIs PySem.F.entry_tuple_iterator_next ?_ (PySem.F.args_tuple_iterator_next_1 _)))
    show wpAny _ _ (field (.ref it) 0 >>= _) _ _ s
    refine wpAny_bind (wpAny_field g1 d1 (x := .ref l) rfl ?_)
    show wpAny _ _ (if (Value.ref l == Value.none) = true then _ else _) _ _ s
    rw [if_neg (show ¬ ((Value.ref l == Value.none) = true) from Bool.false_ne_true)]
    show wpAny _ _ (field (.ref it) 1 >>= _) _ _ s
    refine wpAny_bind (wpAny_field g1 d1 (x := .int i 0) rfl ?_)
    show wpAny _ _ (seqItems? (.ref l) >>= _) _ _ s
    refine wpAny_bind (wpAny_seqItems g2 d2 ?_)
    simp only [Int.toNat_natCast, hx]
    refine wpAny_bind (wpAny_setField g1 d1 (by simp) (wpAny_pure ⟨x, rfl, wpAny_pure (hQ _ ?_ (Heap.SameBut.update ..))⟩))
    refine ⟨_, Heap.get?_update_self _ g1 (Obj.isFreed_of_fields (Obj.data_mapFields d1 _)), (Obj.cls_mapFields ..).trans c1, ?_⟩
    rw [Obj.data_mapFields d1]
    simp [rawInt]
  fin := fun A i s Q E hh hit ht hx hE => by
    obtain ⟨o1, g1, c1, d1⟩ := id hit
    obtain ⟨o2, g2, _, n2, d2⟩ := ht
    unfold Builtin.SmallTypes.nextOf
    refine wpAny_bind (wpAny_callSpecial?_slot (name := Str.ofString "__next__") hit.typeIs PySem.F.slot_tuple_iterator_next (wpAny_call_entry PySem.F.slot_tuple_iterator_next hit.typeIs PySem.F.entry_tuple_iterator_next ?_ (PySem.F.args_tuple_iterator_next_1 _)))
    show wpAny _ _ (field (.ref it) 0 >>= _) _ _ s
    refine wpAny_bind (wpAny_field g1 d1 (x := .ref l) rfl ?_)
    show wpAny _ _ (if (Value.ref l == Value.none) = true then _ else _) _ _ s
    rw [if_neg (show ¬ ((Value.ref l == Value.none) = true) from Bool.false_ne_true)]
    show wpAny _ _ (field (.ref it) 1 >>= _) _ _ s
    refine wpAny_bind (wpAny_field g1 d1 (x := .int i 0) rfl ?_)
    show wpAny _ _ (seqItems? (.ref l) >>= _) _ _ s
    refine wpAny_bind (wpAny_seqItems g2 d2 ?_)
    simp only [Int.toNat_natCast, hx]
    refine wpAny_bind (wpAny_rule (wpAny_bind (wpAny_setField g1 d1 (by simp) ?_)))
    show wpAny _ _ (newExc (.type "StopIteration") [] >>= _) _ _ _
    refine wpAny_bind ?_
    simp only [newExc, newTuple]
    refine wpAny_bind (wpAny_newObj_type ?_ (by size_fits))
    refine wpAny_bind (m := firstArgMember _ _) (wpAny_of_eq (a := Value.none) (by first | rfl | (simp only [firstArgMember]; rfl)) ?_)
    refine wpAny_newObj_type ?_ (by size_fits)
    simp only [raiseNew]
    refine wpAny_bind (wpAny_handled ?_)
    first | rw [show A.in1.handled = none from hh] | rw [hh]
    refine wpAny_bind (wpAny_pure (wpAny_throw ?_))
    exact hE _ _ (((Heap.SameBut.update ..).extBut.push _).push _) ⟨_, Heap.get?_push_size _ rfl, rfl⟩
  keep := fun i h h' st k => st.at k
  skeep := fun h h' ⟨o, e, r⟩ k => ⟨o, k o e, r⟩
  ob := fun i h ⟨o, e, _, d⟩ => ⟨o, e, fun v z => by rw [d] at z; cases z⟩
abbrev TupO (h : Heap) (T : Addr) (vs : Array Value) : Prop := h.get? T = some { cls := .type "tuple", data := .seq vs }
theorem ad {a b : Nat} (h : a < b ∨ b < a) : @Ne Addr a b := by
  intro e
  have e : a = b := e
  omega
theorem upd_tup {prog : Program} {w : World} {A : Around} {E : Value → Shared → Prop} {s : Shared} {T : Addr} {vs : Array Value} {x : Value} {k : Nat} {Q : Unit → Shared → Prop} (hz : vs.size ≤ 8) (hT : TupO s.heap T vs)
    (h : ∀ h', TupO h' T (vs.setIfInBounds k x) → Heap.SameBut T s.heap h' → Q () { s with heap := h' }) : wpAny (model prog w) A (updateSeq T (·.setIfInBounds k x)) Q E s := by
  refine wpAny_updateSeq (hz := line_le (by omega)) (_hz' := by rw [Array.size_setIfInBounds]; exact Nat.le_succ_of_le (line_le (by omega))) hT rfl (h _ ?_ (Heap.SameBut.update ..))
  rw [TupO, Heap.get?_update_self _ hT rfl]
  simp [Obj.mapSeq]
section
variable {prog : Program} {w : World} {A : Around} {E : Value → Shared → Prop} {s : Shared}
structure Z3 (N : Nat) (It1 It2 It3 : Nat → Heap → Prop) (f0 : Value) (i1 i2 i3 : Nat) (vs : Array Value) (h : Heap) : Prop where
  zip : IsZip h (N + 5) (N + 3) (N + 4) f0
  its : TupO h (N + 3) #[.ref N, .ref (N + 1), .ref (N + 2)]
  own : TupO h (N + 4) vs
  a1 : It1 i1 h
  a2 : It2 i2 h
  a3 : It3 i3 h
variable {N l1 l2 l3 : Nat} {xs ys zs : Array Value} {It1 It2 It3 : Nat → Heap → Prop} {S1 S2 S3 : Heap → Prop}
theorem z3_item {i : Nat} {x y z u1 u2 u3 : Value} {Q : Value → Shared → Prop} (n1 : l1 < N) (n2 : l2 < N) (n3 : l3 < N) (D1 : Drw prog w N l1 xs It1 S1) (D2 : Drw prog w (N + 1) l2 ys It2 S2) (D3 : Drw prog w (N + 2) l3 zs It3 S3)
    (Z : Z3 N It1 It2 It3 .none i i i #[u1, u2, u3] s.heap) (s1 : S1 s.heap) (s2 : S2 s.heap) (s3 : S3 s.heap) (hx : xs[i]? = some x) (hy : ys[i]? = some y) (hz : zs[i]? = some z)
    (hQ : ∀ h', Z3 N It1 It2 It3 (rawInt s.heap.objs.size) (i + 1) (i + 1) (i + 1) #[x, y, z] h' → TupO h' s.heap.objs.size #[x, y, z] → (∀ c o, c ≠ N → c ≠ N + 1 → c ≠ N + 2 → c ≠ N + 4 → c ≠ N + 5 → s.heap.get? c = some o → h'.get? c = some o) → Q (.ref s.heap.objs.size) { s with heap := h' }) :
    wpAny (model prog w) A (Builtin.«zip.__next__» ⟨[.ref (N + 5)], []⟩) (fun fin s' => ∃ v, fin = .done (.ret v) ∧ Q v s') E s := by
  have gz := Z.zip
  have gT := Z.own
  show wpAny _ _ (field (.ref (N + 5)) 2 >>= _) _ _ _
  refine wpAny_bind (wpAny_field gz rfl (x := .bool false) rfl ?_)
  show wpAny _ _ (field (.ref (N + 5)) 3 >>= _) _ _ _
  refine wpAny_bind (wpAny_field gz rfl (x := .ref (N + 3)) rfl ?_)
  refine wpAny_bind (wpAny_seqItems Z.its rfl ?_)
  show wpAny _ _ (Builtin.SmallTypes.ownedTupleIsFree (.ref (N + 5)) >>= _) _ _ _
  refine wpAny_bind ?_
  unfold Builtin.SmallTypes.ownedTupleIsFree
  refine wpAny_bind (wpAny_field gz rfl (x := .none) rfl (wpAny_pure ?_))
  simp only [if_true]
  refine wpAny_bind (wpAny_rule ?_)
  refine wpAny_bind (wpAny_field gz rfl (x := .ref (N + 4)) rfl ?_)
  refine wpAny_bind (wpAny_setField_rec gz (by simp) fun ha gza ka => ?_)
  replace gza : IsZip ha (N + 5) (N + 3) (N + 4) .ellipsis := gza
  refine wpAny_bind ?_
  simp only [List.zipIdx_cons, List.zipIdx_nil, List.forIn_cons, List.forIn_nil]
  refine wpAny_bind (wpAny_bind (wpAny_onRaise ?_))
  show wpAny _ _ (Builtin.SmallTypes.nextOf (.ref N) >>= _) _ _ _
  refine wpAny_bind (D1.item _ i _ x _ _ (D1.keep _ _ _ Z.a1 fun o e => ka.extBut _ _ (ad (by omega)) e) (D1.skeep _ _ s1 fun o e => ka.extBut _ _ (ad (by omega)) e) hx fun hb I1b kb => wpAny_pure ?_)
  have gTb : TupO hb (N + 4) #[u1, u2, u3] := kb.extBut _ _ (ad (by omega)) (ka.extBut _ _ (ad (by omega)) gT)
  refine wpAny_bind (wpAny_seqItems gTb rfl ?_)
  refine wpAny_bind (upd_tup (by show 3 ≤ 8; decide) gTb fun hc gTc kc => ?_)
  replace gTc : TupO hc (N + 4) #[x, u2, u3] := gTc
  refine wpAny_bind (wpAny_letGo (wpAny_pure ?_))
  refine wpAny_bind (wpAny_bind (wpAny_onRaise ?_))
  show wpAny _ _ (Builtin.SmallTypes.nextOf (.ref (N + 1)) >>= _) _ _ _
  refine wpAny_bind (D2.item _ i _ y _ _ (D2.keep _ _ _ Z.a2 fun o e => kc.extBut _ _ (ad (by omega)) (kb.extBut _ _ (ad (by omega)) (ka.extBut _ _ (ad (by omega)) e))) (D2.skeep _ _ s2 fun o e => kc.extBut _ _ (ad (by omega)) (kb.extBut _ _ (ad (by omega)) (ka.extBut _ _ (ad (by omega)) e))) hy fun hd I2d kd => wpAny_pure ?_)
  have gTd : TupO hd (N + 4) #[x, u2, u3] := kd.extBut _ _ (ad (by omega)) gTc
  refine wpAny_bind (wpAny_seqItems gTd rfl ?_)
  refine wpAny_bind (upd_tup (by show 3 ≤ 8; decide) gTd fun he gTe ke => ?_)
  replace gTe : TupO he (N + 4) #[x, y, u3] := gTe
  refine wpAny_bind (wpAny_letGo (wpAny_pure ?_))
  refine wpAny_bind (wpAny_bind (wpAny_onRaise ?_))
  show wpAny _ _ (Builtin.SmallTypes.nextOf (.ref (N + 2)) >>= _) _ _ _
  have toE : ∀ c o, c ≠ N + 5 → c ≠ N → c ≠ N + 4 → c ≠ N + 1 → s.heap.get? c = some o → he.get? c = some o := fun c o h5 h0 h4 h1 e =>
    ke.extBut _ _ h4 (kd.extBut _ _ h1 (kc.extBut _ _ h4 (kb.extBut _ _ h0 (ka.extBut _ _ h5 e))))
  refine wpAny_bind (D3.item _ i _ z _ _ (D3.keep _ _ _ Z.a3 fun o e => toE _ o (ad (by omega)) (ad (by omega)) (ad (by omega)) (ad (by omega)) e) (D3.skeep _ _ s3 fun o e => toE _ o (ad (by omega)) (ad (by omega)) (ad (by omega)) (ad (by omega)) e) hz fun hf I3f kf => wpAny_pure ?_)
  have gTf : TupO hf (N + 4) #[x, y, u3] := kf.extBut _ _ (ad (by omega)) gTe
  refine wpAny_bind (wpAny_seqItems gTf rfl ?_)
  refine wpAny_bind (upd_tup (by show 3 ≤ 8; decide) gTf fun hg gTg kg => ?_)
  replace gTg : TupO hg (N + 4) #[x, y, z] := gTg
  refine wpAny_bind (wpAny_letGo (wpAny_pure (wpAny_pure ?_)))
  refine wpAny_bind (wpAny_seqItems gTg rfl ?_)
  refine wpAny_bind (wpAny_newTuple ?_)
  have sz : hg.objs.size = s.heap.objs.size := by rw [kg.1, kf.1, ke.1, kd.1, kc.1, kb.1, ka.1]
  have toG : ∀ c o, c ≠ N + 5 → c ≠ N → c ≠ N + 4 → c ≠ N + 1 → c ≠ N + 2 → s.heap.get? c = some o → hg.get? c = some o := fun c o h5 h0 h4 h1 h2 e => kg.extBut _ _ h4 (kf.extBut _ _ h2 (toE c o h5 h0 h4 h1 e))
  have gzg : IsZip hg (N + 5) (N + 3) (N + 4) .ellipsis := kg.extBut _ _ (ad (by omega)) (kf.extBut _ _ (ad (by omega)) (ke.extBut _ _ (ad (by omega)) (kd.extBut _ _ (ad (by omega)) (kc.extBut _ _ (ad (by omega)) (kb.extBut _ _ (ad (by omega)) gza)))))
  have I1g : It1 (i + 1) hg := D1.keep _ _ _ I1b fun o e => kg.extBut _ _ (ad (by omega)) (kf.extBut _ _ (ad (by omega)) (ke.extBut _ _ (ad (by omega)) (kd.extBut _ _ (ad (by omega)) (kc.extBut _ _ (ad (by omega)) e))))
  have I2g : It2 (i + 1) hg := D2.keep _ _ _ I2d fun o e => kg.extBut _ _ (ad (by omega)) (kf.extBut _ _ (ad (by omega)) (ke.extBut _ _ (ad (by omega)) e))
  have I3g : It3 (i + 1) hg := D3.keep _ _ _ I3f fun o e => kg.extBut _ _ (ad (by omega)) e
  have big : N + 5 < hg.objs.size := Heap.lt_size gzg
  show wpAny _ _ (Builtin.SmallTypes.ownedTupleHandOut (.ref (N + 5)) (.ref hg.objs.size) >>= _) _ _ _
  refine wpAny_bind ?_
  unfold Builtin.SmallTypes.ownedTupleHandOut
  have gzp : IsZip (hg.push { cls := .type "tuple", data := .seq #[x, y, z] }) (N + 5) (N + 3) (N + 4) .ellipsis := Heap.get?_push_of_some _ gzg
  refine wpAny_bind (wpAny_setField_rec gzp (by simp) fun hi gzi ki => ?_)
  replace gzi : IsZip hi (N + 5) (N + 3) (N + 4) (rawInt hg.objs.size) := gzi
  refine wpAny_setField_rec gzi (by simp) fun hj gzj kj => ?_
  replace gzj : IsZip hj (N + 5) (N + 3) (N + 4) (rawInt hg.objs.size) := gzj
  have up : ∀ c o, c ≠ N + 5 → hg.get? c = some o → hj.get? c = some o := fun c o c1 e => kj.extBut _ _ c1 (ki.extBut _ _ c1 (Heap.get?_push_of_some _ e))
  have gN : TupO hj hg.objs.size #[x, y, z] := kj.extBut _ _ (ad (by omega)) (ki.extBut _ _ (ad (by omega)) (Heap.get?_push_size _ rfl))
  rw [sz] at gzj gN
  refine wpAny_pure ⟨_, rfl, ?_⟩
  show Q (.ref hg.objs.size) _
  rw [sz]
  refine hQ hj ⟨gzj, up _ _ (ad (by omega)) (toG _ _ (ad (by omega)) (ad (by omega)) (ad (by omega)) (ad (by omega)) (ad (by omega)) Z.its), up _ _ (ad (by omega)) gTg, D1.keep _ _ _ I1g fun o e => up _ o (ad (by omega)) e, D2.keep _ _ _ I2g fun o e => up _ o (ad (by omega)) e, D3.keep _ _ _ I3g fun o e => up _ o (ad (by omega)) e⟩ gN
    fun c o c0 c1 c2 c4 c5 e => up c o c5 (toG c o c5 c0 c4 c1 c2 e)
theorem z3_fin {i : Nat} {u1 u2 u3 : Value} {Q : Fin → Shared → Prop} (hh : A.handled = none) (n1 : l1 < N) (n2 : l2 < N) (n3 : l3 < N) (D1 : Drw prog w N l1 xs It1 S1) (D2 : Drw prog w (N + 1) l2 ys It2 S2) (D3 : Drw prog w (N + 2) l3 zs It3 S3)
    (Z : Z3 N It1 It2 It3 .none i i i #[u1, u2, u3] s.heap) (s1 : S1 s.heap) (s2 : S2 s.heap) (s3 : S3 s.heap) (hend : xs[i]? = none ∨ ys[i]? = none ∨ zs[i]? = none)
    (hE : ∀ h' e, (∀ c o, c ≠ N → c ≠ N + 1 → c ≠ N + 2 → c ≠ N + 4 → c ≠ N + 5 → s.heap.get? c = some o → h'.get? c = some o) → (∃ o, h'.get? e = some o ∧ o.cls = .type "StopIteration") → E (.ref e) { s with heap := h' }) :
    wpAny (model prog w) A (Builtin.«zip.__next__» ⟨[.ref (N + 5)], []⟩) Q E s := by
  have gz := Z.zip
  have gT := Z.own
  show wpAny _ _ (field (.ref (N + 5)) 2 >>= _) _ _ _
  refine wpAny_bind (wpAny_field gz rfl (x := .bool false) rfl ?_)
  show wpAny _ _ (field (.ref (N + 5)) 3 >>= _) _ _ _
  refine wpAny_bind (wpAny_field gz rfl (x := .ref (N + 3)) rfl ?_)
  refine wpAny_bind (wpAny_seqItems Z.its rfl ?_)
  show wpAny _ _ (Builtin.SmallTypes.ownedTupleIsFree (.ref (N + 5)) >>= _) _ _ _
  refine wpAny_bind ?_
  unfold Builtin.SmallTypes.ownedTupleIsFree
  refine wpAny_bind (wpAny_field gz rfl (x := .none) rfl (wpAny_pure ?_))
  simp only [if_true]
  refine wpAny_bind (wpAny_rule ?_)
  refine wpAny_bind (wpAny_field gz rfl (x := .ref (N + 4)) rfl ?_)
  refine wpAny_bind (wpAny_setField_rec gz (by simp) fun ha gza ka => ?_)
  replace gza : IsZip ha (N + 5) (N + 3) (N + 4) .ellipsis := gza
  refine wpAny_bind ?_
  simp only [List.zipIdx_cons, List.zipIdx_nil, List.forIn_cons, List.forIn_nil]
  refine wpAny_bind (wpAny_bind (wpAny_onRaise ?_))
  show wpAny _ _ (Builtin.SmallTypes.nextOf (.ref N) >>= _) _ _ _
  have I1 := D1.keep _ _ ha Z.a1 fun o e => ka.extBut _ _ (ad (by omega)) e
  have T1 := D1.skeep _ ha s1 fun o e => ka.extBut _ _ (ad (by omega)) e
  cases hx : xs[i]? with
  | none =>
    refine wpAny_bind (D1.fin _ i _ _ _ hh I1 T1 hx fun hb e kb ⟨oe, ge, ce⟩ => ?_)
    have gzb : IsZip hb (N + 5) (N + 3) (N + 4) .ellipsis := kb _ _ (ad (by omega)) gza
    have nez : e ≠ N + 5 := fun q => by subst q; rw [gzb] at ge; cases ge; simp at ce
    refine wpAny_setField_rec gzb (by simp) fun hc _ kc => hE hc e (fun c o c0 _ _ _ c5 q => kc.extBut _ _ c5 (kb _ _ c0 (ka.extBut _ _ c5 q))) ⟨oe, kc.extBut _ _ nez ge, ce⟩
  | some x =>
    refine wpAny_bind (D1.item _ i _ x _ _ I1 T1 hx fun hb I1b kb => wpAny_pure ?_)
    have gTb : TupO hb (N + 4) #[u1, u2, u3] := kb.extBut _ _ (ad (by omega)) (ka.extBut _ _ (ad (by omega)) gT)
    refine wpAny_bind (wpAny_seqItems gTb rfl ?_)
    refine wpAny_bind (upd_tup (by show 3 ≤ 8; decide) gTb fun hc gTc kc => ?_)
    replace gTc : TupO hc (N + 4) #[x, u2, u3] := gTc
    refine wpAny_bind (wpAny_letGo (wpAny_pure ?_))
    refine wpAny_bind (wpAny_bind (wpAny_onRaise ?_))
    show wpAny _ _ (Builtin.SmallTypes.nextOf (.ref (N + 1)) >>= _) _ _ _
    have toC : ∀ c o, c ≠ N + 5 → c ≠ N → c ≠ N + 4 → s.heap.get? c = some o → hc.get? c = some o := fun c o h5 h0 h4 e => kc.extBut _ _ h4 (kb.extBut _ _ h0 (ka.extBut _ _ h5 e))
    have gzc : IsZip hc (N + 5) (N + 3) (N + 4) .ellipsis := kc.extBut _ _ (ad (by omega)) (kb.extBut _ _ (ad (by omega)) gza)
    have I2 := D2.keep _ _ hc Z.a2 fun o e => toC _ o (ad (by omega)) (ad (by omega)) (ad (by omega)) e
    have T2 := D2.skeep _ hc s2 fun o e => toC _ o (ad (by omega)) (ad (by omega)) (ad (by omega)) e
    cases hy : ys[i]? with
    | none =>
      refine wpAny_bind (D2.fin _ i _ _ _ hh I2 T2 hy fun hd e kd ⟨oe, ge, ce⟩ => ?_)
      have gzd : IsZip hd (N + 5) (N + 3) (N + 4) .ellipsis := kd _ _ (ad (by omega)) gzc
      have nez : e ≠ N + 5 := fun q => by subst q; rw [gzd] at ge; cases ge; simp at ce
      refine wpAny_setField_rec gzd (by simp) fun hf _ kf => hE hf e (fun c o c0 c1 _ c4 c5 q => kf.extBut _ _ c5 (kd _ _ c1 (toC c o c5 c0 c4 q))) ⟨oe, kf.extBut _ _ nez ge, ce⟩
    | some y =>
      refine wpAny_bind (D2.item _ i _ y _ _ I2 T2 hy fun hd I2d kd => wpAny_pure ?_)
      have gTd : TupO hd (N + 4) #[x, u2, u3] := kd.extBut _ _ (ad (by omega)) gTc
      refine wpAny_bind (wpAny_seqItems gTd rfl ?_)
      refine wpAny_bind (upd_tup (by show 3 ≤ 8; decide) gTd fun he gTe ke => ?_)
      refine wpAny_bind (wpAny_letGo (wpAny_pure ?_))
      refine wpAny_bind (wpAny_bind (wpAny_onRaise ?_))
      show wpAny _ _ (Builtin.SmallTypes.nextOf (.ref (N + 2)) >>= _) _ _ _
      have toE : ∀ c o, c ≠ N + 5 → c ≠ N → c ≠ N + 4 → c ≠ N + 1 → s.heap.get? c = some o → he.get? c = some o := fun c o h5 h0 h4 h1 e => ke.extBut _ _ h4 (kd.extBut _ _ h1 (toC c o h5 h0 h4 e))
      have gze : IsZip he (N + 5) (N + 3) (N + 4) .ellipsis := ke.extBut _ _ (ad (by omega)) (kd.extBut _ _ (ad (by omega)) gzc)
      have hz : zs[i]? = none := by
        rcases hend with q | q | q
        · rw [hx] at q; cases q
        · rw [hy] at q; cases q
        · exact q
      refine wpAny_bind (D3.fin _ i _ _ _ hh (D3.keep _ _ he Z.a3 fun o e => toE _ o (ad (by omega)) (ad (by omega)) (ad (by omega)) (ad (by omega)) e) (D3.skeep _ he s3 fun o e => toE _ o (ad (by omega)) (ad (by omega)) (ad (by omega)) (ad (by omega)) e) hz fun hf e kf ⟨oe, ge, ce⟩ => ?_)
      have gzf : IsZip hf (N + 5) (N + 3) (N + 4) .ellipsis := kf _ _ (ad (by omega)) gze
      have nez : e ≠ N + 5 := fun q => by subst q; rw [gzf] at ge; cases ge; simp at ce
      refine wpAny_setField_rec gzf (by simp) fun hg _ kg => hE hg e (fun c o c0 c1 c2 c4 c5 q => kg.extBut _ _ c5 (kf _ _ c2 (toE c o c5 c0 c4 c1 q))) ⟨oe, kg.extBut _ _ nez ge, ce⟩
structure Z2 (N : Nat) (It1 It2 : Nat → Heap → Prop) (f0 : Value) (i1 i2 : Nat) (vs : Array Value) (h : Heap) : Prop where
  zip : IsZip h (N + 4) (N + 2) (N + 3) f0
  its : TupO h (N + 2) #[.ref N, .ref (N + 1)]
  own : TupO h (N + 3) vs
  a1 : It1 i1 h
  a2 : It2 i2 h
theorem z2_item {i : Nat} {x y u1 u2 : Value} {Q : Value → Shared → Prop} (n1 : l1 < N) (n2 : l2 < N) (D1 : Drw prog w N l1 xs It1 S1) (D2 : Drw prog w (N + 1) l2 ys It2 S2)
    (Z : Z2 N It1 It2 .none i i #[u1, u2] s.heap) (s1 : S1 s.heap) (s2 : S2 s.heap) (hx : xs[i]? = some x) (hy : ys[i]? = some y)
    (hQ : ∀ h', Z2 N It1 It2 (rawInt s.heap.objs.size) (i + 1) (i + 1) #[x, y] h' → TupO h' s.heap.objs.size #[x, y] → (∀ c o, c ≠ N → c ≠ N + 1 → c ≠ N + 3 → c ≠ N + 4 → s.heap.get? c = some o → h'.get? c = some o) → Q (.ref s.heap.objs.size) { s with heap := h' }) :
    wpAny (model prog w) A (Builtin.«zip.__next__» ⟨[.ref (N + 4)], []⟩) (fun fin s' => ∃ v, fin = .done (.ret v) ∧ Q v s') E s := by
  have gz := Z.zip
  have gT := Z.own
  show wpAny _ _ (field (.ref (N + 4)) 2 >>= _) _ _ _
  refine wpAny_bind (wpAny_field gz rfl (x := .bool false) rfl ?_)
  show wpAny _ _ (field (.ref (N + 4)) 3 >>= _) _ _ _
  refine wpAny_bind (wpAny_field gz rfl (x := .ref (N + 2)) rfl ?_)
  refine wpAny_bind (wpAny_seqItems Z.its rfl ?_)
  show wpAny _ _ (Builtin.SmallTypes.ownedTupleIsFree (.ref (N + 4)) >>= _) _ _ _
  refine wpAny_bind ?_
  unfold Builtin.SmallTypes.ownedTupleIsFree
  refine wpAny_bind (wpAny_field gz rfl (x := .none) rfl (wpAny_pure ?_))
  simp only [if_true]
  refine wpAny_bind (wpAny_rule ?_)
  refine wpAny_bind (wpAny_field gz rfl (x := .ref (N + 3)) rfl ?_)
  refine wpAny_bind (wpAny_setField_rec gz (by simp) fun ha gza ka => ?_)
  replace gza : IsZip ha (N + 4) (N + 2) (N + 3) .ellipsis := gza
  refine wpAny_bind ?_
  simp only [List.zipIdx_cons, List.zipIdx_nil, List.forIn_cons, List.forIn_nil]
  refine wpAny_bind (wpAny_bind (wpAny_onRaise ?_))
  show wpAny _ _ (Builtin.SmallTypes.nextOf (.ref N) >>= _) _ _ _
  refine wpAny_bind (D1.item _ i _ x _ _ (D1.keep _ _ _ Z.a1 fun o e => ka.extBut _ _ (ad (by omega)) e) (D1.skeep _ _ s1 fun o e => ka.extBut _ _ (ad (by omega)) e) hx fun hb I1b kb => wpAny_pure ?_)
  have gTb : TupO hb (N + 3) #[u1, u2] := kb.extBut _ _ (ad (by omega)) (ka.extBut _ _ (ad (by omega)) gT)
  refine wpAny_bind (wpAny_seqItems gTb rfl ?_)
  refine wpAny_bind (upd_tup (by show 2 ≤ 8; decide) gTb fun hc gTc kc => ?_)
  replace gTc : TupO hc (N + 3) #[x, u2] := gTc
  refine wpAny_bind (wpAny_letGo (wpAny_pure ?_))
  refine wpAny_bind (wpAny_bind (wpAny_onRaise ?_))
  show wpAny _ _ (Builtin.SmallTypes.nextOf (.ref (N + 1)) >>= _) _ _ _
  refine wpAny_bind (D2.item _ i _ y _ _ (D2.keep _ _ _ Z.a2 fun o e => kc.extBut _ _ (ad (by omega)) (kb.extBut _ _ (ad (by omega)) (ka.extBut _ _ (ad (by omega)) e))) (D2.skeep _ _ s2 fun o e => kc.extBut _ _ (ad (by omega)) (kb.extBut _ _ (ad (by omega)) (ka.extBut _ _ (ad (by omega)) e))) hy fun hd I2d kd => wpAny_pure ?_)
  have gTd : TupO hd (N + 3) #[x, u2] := kd.extBut _ _ (ad (by omega)) gTc
  refine wpAny_bind (wpAny_seqItems gTd rfl ?_)
  refine wpAny_bind (upd_tup (by show 2 ≤ 8; decide) gTd fun hg gTg ke => ?_)
  replace gTg : TupO hg (N + 3) #[x, y] := gTg
  refine wpAny_bind (wpAny_letGo (wpAny_pure (wpAny_pure ?_)))
  refine wpAny_bind (wpAny_seqItems gTg rfl ?_)
  refine wpAny_bind (wpAny_newTuple ?_)
  have sz : hg.objs.size = s.heap.objs.size := by rw [ke.1, kd.1, kc.1, kb.1, ka.1]
  have toG : ∀ c o, c ≠ N + 4 → c ≠ N → c ≠ N + 3 → c ≠ N + 1 → s.heap.get? c = some o → hg.get? c = some o := fun c o h5 h0 h4 h1 e =>
    ke.extBut _ _ h4 (kd.extBut _ _ h1 (kc.extBut _ _ h4 (kb.extBut _ _ h0 (ka.extBut _ _ h5 e))))
  have gzg : IsZip hg (N + 4) (N + 2) (N + 3) .ellipsis := ke.extBut _ _ (ad (by omega)) (kd.extBut _ _ (ad (by omega)) (kc.extBut _ _ (ad (by omega)) (kb.extBut _ _ (ad (by omega)) gza)))
  have I1g : It1 (i + 1) hg := D1.keep _ _ _ I1b fun o e => ke.extBut _ _ (ad (by omega)) (kd.extBut _ _ (ad (by omega)) (kc.extBut _ _ (ad (by omega)) e))
  have I2g : It2 (i + 1) hg := D2.keep _ _ _ I2d fun o e => ke.extBut _ _ (ad (by omega)) e
  have big : N + 4 < hg.objs.size := Heap.lt_size gzg
  show wpAny _ _ (Builtin.SmallTypes.ownedTupleHandOut (.ref (N + 4)) (.ref hg.objs.size) >>= _) _ _ _
  refine wpAny_bind ?_
  unfold Builtin.SmallTypes.ownedTupleHandOut
  have gzp : IsZip (hg.push { cls := .type "tuple", data := .seq #[x, y] }) (N + 4) (N + 2) (N + 3) .ellipsis := Heap.get?_push_of_some _ gzg
  refine wpAny_bind (wpAny_setField_rec gzp (by simp) fun hi gzi ki => ?_)
  replace gzi : IsZip hi (N + 4) (N + 2) (N + 3) (rawInt hg.objs.size) := gzi
  refine wpAny_setField_rec gzi (by simp) fun hj gzj kj => ?_
  replace gzj : IsZip hj (N + 4) (N + 2) (N + 3) (rawInt hg.objs.size) := gzj
  have up : ∀ c o, c ≠ N + 4 → hg.get? c = some o → hj.get? c = some o := fun c o c1 e => kj.extBut _ _ c1 (ki.extBut _ _ c1 (Heap.get?_push_of_some _ e))
  have gN : TupO hj hg.objs.size #[x, y] := kj.extBut _ _ (ad (by omega)) (ki.extBut _ _ (ad (by omega)) (Heap.get?_push_size _ rfl))
  rw [sz] at gzj gN
  refine wpAny_pure ⟨_, rfl, ?_⟩
  show Q (.ref hg.objs.size) _
  rw [sz]
  refine hQ hj ⟨gzj, up _ _ (ad (by omega)) (toG _ _ (ad (by omega)) (ad (by omega)) (ad (by omega)) (ad (by omega)) Z.its), up _ _ (ad (by omega)) gTg, D1.keep _ _ _ I1g fun o e => up _ o (ad (by omega)) e, D2.keep _ _ _ I2g fun o e => up _ o (ad (by omega)) e⟩ gN
    fun c o c0 c1 c4 c5 e => up c o c5 (toG c o c5 c0 c4 c1 e)
theorem z2_fin {i : Nat} {u1 u2 : Value} {Q : Fin → Shared → Prop} (hh : A.handled = none) (n1 : l1 < N) (n2 : l2 < N) (D1 : Drw prog w N l1 xs It1 S1) (D2 : Drw prog w (N + 1) l2 ys It2 S2)
    (Z : Z2 N It1 It2 .none i i #[u1, u2] s.heap) (s1 : S1 s.heap) (s2 : S2 s.heap) (hend : xs[i]? = none ∨ ys[i]? = none)
    (hE : ∀ h' e, (∀ c o, c ≠ N → c ≠ N + 1 → c ≠ N + 3 → c ≠ N + 4 → s.heap.get? c = some o → h'.get? c = some o) → (∃ o, h'.get? e = some o ∧ o.cls = .type "StopIteration") → E (.ref e) { s with heap := h' }) :
    wpAny (model prog w) A (Builtin.«zip.__next__» ⟨[.ref (N + 4)], []⟩) Q E s := by
  have gz := Z.zip
  have gT := Z.own
  show wpAny _ _ (field (.ref (N + 4)) 2 >>= _) _ _ _
  refine wpAny_bind (wpAny_field gz rfl (x := .bool false) rfl ?_)
  show wpAny _ _ (field (.ref (N + 4)) 3 >>= _) _ _ _
  refine wpAny_bind (wpAny_field gz rfl (x := .ref (N + 2)) rfl ?_)
  refine wpAny_bind (wpAny_seqItems Z.its rfl ?_)
  show wpAny _ _ (Builtin.SmallTypes.ownedTupleIsFree (.ref (N + 4)) >>= _) _ _ _
  refine wpAny_bind ?_
  unfold Builtin.SmallTypes.ownedTupleIsFree
  refine wpAny_bind (wpAny_field gz rfl (x := .none) rfl (wpAny_pure ?_))
  simp only [if_true]
  refine wpAny_bind (wpAny_rule ?_)
  refine wpAny_bind (wpAny_field gz rfl (x := .ref (N + 3)) rfl ?_)
  refine wpAny_bind (wpAny_setField_rec gz (by simp) fun ha gza ka => ?_)
  replace gza : IsZip ha (N + 4) (N + 2) (N + 3) .ellipsis := gza
  refine wpAny_bind ?_
  simp only [List.zipIdx_cons, List.zipIdx_nil, List.forIn_cons, List.forIn_nil]
  refine wpAny_bind (wpAny_bind (wpAny_onRaise ?_))
  show wpAny _ _ (Builtin.SmallTypes.nextOf (.ref N) >>= _) _ _ _
  have I1 := D1.keep _ _ ha Z.a1 fun o e => ka.extBut _ _ (ad (by omega)) e
  have T1 := D1.skeep _ ha s1 fun o e => ka.extBut _ _ (ad (by omega)) e
  cases hx : xs[i]? with
  | none =>
    refine wpAny_bind (D1.fin _ i _ _ _ hh I1 T1 hx fun hb e kb ⟨oe, ge, ce⟩ => ?_)
    have gzb : IsZip hb (N + 4) (N + 2) (N + 3) .ellipsis := kb _ _ (ad (by omega)) gza
    have nez : e ≠ N + 4 := fun q => by subst q; rw [gzb] at ge; cases ge; simp at ce
    refine wpAny_setField_rec gzb (by simp) fun hc _ kc => hE hc e (fun c o c0 _ _ c5 q => kc.extBut _ _ c5 (kb _ _ c0 (ka.extBut _ _ c5 q))) ⟨oe, kc.extBut _ _ nez ge, ce⟩
  | some x =>
    have hy : ys[i]? = none := by
      rcases hend with q | q
      · rw [hx] at q; cases q
      · exact q
    refine wpAny_bind (D1.item _ i _ x _ _ I1 T1 hx fun hb I1b kb => wpAny_pure ?_)
    have gTb : TupO hb (N + 3) #[u1, u2] := kb.extBut _ _ (ad (by omega)) (ka.extBut _ _ (ad (by omega)) gT)
    refine wpAny_bind (wpAny_seqItems gTb rfl ?_)
    refine wpAny_bind (upd_tup (by show 2 ≤ 8; decide) gTb fun hc gTc kc => ?_)
    refine wpAny_bind (wpAny_letGo (wpAny_pure ?_))
    refine wpAny_bind (wpAny_bind (wpAny_onRaise ?_))
    show wpAny _ _ (Builtin.SmallTypes.nextOf (.ref (N + 1)) >>= _) _ _ _
    have toC : ∀ c o, c ≠ N + 4 → c ≠ N → c ≠ N + 3 → s.heap.get? c = some o → hc.get? c = some o := fun c o h5 h0 h4 e => kc.extBut _ _ h4 (kb.extBut _ _ h0 (ka.extBut _ _ h5 e))
    have gzc : IsZip hc (N + 4) (N + 2) (N + 3) .ellipsis := kc.extBut _ _ (ad (by omega)) (kb.extBut _ _ (ad (by omega)) gza)
    refine wpAny_bind (D2.fin _ i _ _ _ hh (D2.keep _ _ hc Z.a2 fun o e => toC _ o (ad (by omega)) (ad (by omega)) (ad (by omega)) e) (D2.skeep _ hc s2 fun o e => toC _ o (ad (by omega)) (ad (by omega)) (ad (by omega)) e) hy fun hd e kd ⟨oe, ge, ce⟩ => ?_)
    have gzd : IsZip hd (N + 4) (N + 2) (N + 3) .ellipsis := kd _ _ (ad (by omega)) gzc
    have nez : e ≠ N + 4 := fun q => by subst q; rw [gzd] at ge; cases ge; simp at ce
    refine wpAny_setField_rec gzd (by simp) fun hf _ kf => hE hf e (fun c o c0 c1 c4 c5 q => kf.extBut _ _ c5 (kd _ _ c1 (toC c o c5 c0 c4 q))) ⟨oe, kf.extBut _ _ nez ge, ce⟩
end
end Hs
end
section
set_option Elab.async false
set_option linter.all false
set_option maxRecDepth 100000
set_option maxHeartbeats 4000000
namespace Hs
open PySem PySem.Spec
open PyProof.Rows hiding St
open L2
section
variable {prog : Program} {w : World} {A : Around} {E : Value → Shared → Prop} {s : Shared}
variable {N l1 l2 l3 : Nat} {xs ys zs : Array Value} {It1 It2 It3 : Nat → Heap → Prop} {S1 S2 S3 : Heap → Prop}
theorem z3_next {i : Nat} {x y z u1 u2 u3 : Value} {Q : Option Value → Shared → Prop} (n1 : l1 < N) (n2 : l2 < N) (n3 : l3 < N) (D1 : Drw prog w N l1 xs It1 S1) (D2 : Drw prog w (N + 1) l2 ys It2 S2) (D3 : Drw prog w (N + 2) l3 zs It3 S3)
    (Z : Z3 N It1 It2 It3 .none i i i #[u1, u2, u3] s.heap) (s1 : S1 s.heap) (s2 : S2 s.heap) (s3 : S3 s.heap) (hx : xs[i]? = some x) (hy : ys[i]? = some y) (hz : zs[i]? = some z)
    (hQ : ∀ h', Z3 N It1 It2 It3 (rawInt s.heap.objs.size) (i + 1) (i + 1) (i + 1) #[x, y, z] h' → TupO h' s.heap.objs.size #[x, y, z] → (∀ c o, c ≠ N → c ≠ N + 1 → c ≠ N + 2 → c ≠ N + 4 → c ≠ N + 5 → s.heap.get? c = some o → h'.get? c = some o) → Q (some (.ref s.heap.objs.size)) { s with heap := h' }) :
    wpAny (model prog w) A (pyNext (.ref (N + 5))) Q E s := by
  have ty : s.TypeIs (.ref (N + 5)) "zip" := ⟨_, Z.zip, rfl⟩
  unfold pyNext
  refine wpAny_bind (wpAny_attempt (wpAny_callSpecial?_slot (name := Str.ofString "__next__") ty PySem.F.slot_zip_next (wpAny_call_entry PySem.F.slot_zip_next ty PySem.F.entry_zip_next ?_ (PySem.F.args_zip_next_1 _))))
  exact z3_item n1 n2 n3 D1 D2 D3 Z s1 s2 s3 hx hy hz fun h' q1 q2 q3 => wpAny_pure (hQ h' q1 q2 q3)
theorem z3_over {i : Nat} {u1 u2 u3 : Value} {Q : Option Value → Shared → Prop} (hh : A.handled = none) (n1 : l1 < N) (n2 : l2 < N) (n3 : l3 < N) (D1 : Drw prog w N l1 xs It1 S1) (D2 : Drw prog w (N + 1) l2 ys It2 S2) (D3 : Drw prog w (N + 2) l3 zs It3 S3)
    (Z : Z3 N It1 It2 It3 .none i i i #[u1, u2, u3] s.heap) (s1 : S1 s.heap) (s2 : S2 s.heap) (s3 : S3 s.heap) (hend : xs[i]? = none ∨ ys[i]? = none ∨ zs[i]? = none)
    (hQ : ∀ h', (∀ c o, c ≠ N → c ≠ N + 1 → c ≠ N + 2 → c ≠ N + 4 → c ≠ N + 5 → s.heap.get? c = some o → h'.get? c = some o) → Q none { s with heap := h' }) : wpAny (model prog w) A (pyNext (.ref (N + 5))) Q E s := by
  have ty : s.TypeIs (.ref (N + 5)) "zip" := ⟨_, Z.zip, rfl⟩
  unfold pyNext
  refine wpAny_bind (wpAny_attempt (wpAny_callSpecial?_slot (name := Str.ofString "__next__") ty PySem.F.slot_zip_next (wpAny_call_entry PySem.F.slot_zip_next ty PySem.F.entry_zip_next ?_ (PySem.F.args_zip_next_1 _))))
  refine z3_fin hh n1 n2 n3 D1 D2 D3 Z s1 s2 s3 hend fun h' e kp ⟨o, ho, hc⟩ => ?_
  refine wpAny_bind (wpAny_isInstance (T := "StopIteration") (b := true) ⟨o, ho, hc⟩ isSubtype_stop ?_)
  exact wpAny_pure (hQ _ kp)
theorem z2_next {i : Nat} {x y u1 u2 : Value} {Q : Option Value → Shared → Prop} (n1 : l1 < N) (n2 : l2 < N) (D1 : Drw prog w N l1 xs It1 S1) (D2 : Drw prog w (N + 1) l2 ys It2 S2)
    (Z : Z2 N It1 It2 .none i i #[u1, u2] s.heap) (s1 : S1 s.heap) (s2 : S2 s.heap) (hx : xs[i]? = some x) (hy : ys[i]? = some y)
    (hQ : ∀ h', Z2 N It1 It2 (rawInt s.heap.objs.size) (i + 1) (i + 1) #[x, y] h' → TupO h' s.heap.objs.size #[x, y] → (∀ c o, c ≠ N → c ≠ N + 1 → c ≠ N + 3 → c ≠ N + 4 → s.heap.get? c = some o → h'.get? c = some o) → Q (some (.ref s.heap.objs.size)) { s with heap := h' }) :
    wpAny (model prog w) A (pyNext (.ref (N + 4))) Q E s := by
  have ty : s.TypeIs (.ref (N + 4)) "zip" := ⟨_, Z.zip, rfl⟩
  unfold pyNext
  refine wpAny_bind (wpAny_attempt (wpAny_callSpecial?_slot (name := Str.ofString "__next__") ty PySem.F.slot_zip_next (wpAny_call_entry PySem.F.slot_zip_next ty PySem.F.entry_zip_next ?_ (PySem.F.args_zip_next_1 _))))
  exact z2_item n1 n2 D1 D2 Z s1 s2 hx hy fun h' q1 q2 q3 => wpAny_pure (hQ h' q1 q2 q3)
theorem z2_over {i : Nat} {u1 u2 : Value} {Q : Option Value → Shared → Prop} (hh : A.handled = none) (n1 : l1 < N) (n2 : l2 < N) (D1 : Drw prog w N l1 xs It1 S1) (D2 : Drw prog w (N + 1) l2 ys It2 S2)
    (Z : Z2 N It1 It2 .none i i #[u1, u2] s.heap) (s1 : S1 s.heap) (s2 : S2 s.heap) (hend : xs[i]? = none ∨ ys[i]? = none)
    (hQ : ∀ h', (∀ c o, c ≠ N → c ≠ N + 1 → c ≠ N + 3 → c ≠ N + 4 → s.heap.get? c = some o → h'.get? c = some o) → Q none { s with heap := h' }) : wpAny (model prog w) A (pyNext (.ref (N + 4))) Q E s := by
  have ty : s.TypeIs (.ref (N + 4)) "zip" := ⟨_, Z.zip, rfl⟩
  unfold pyNext
  refine wpAny_bind (wpAny_attempt (wpAny_callSpecial?_slot (name := Str.ofString "__next__") ty PySem.F.slot_zip_next (wpAny_call_entry PySem.F.slot_zip_next ty PySem.F.entry_zip_next ?_ (PySem.F.args_zip_next_1 _))))
  refine z2_fin hh n1 n2 D1 D2 Z s1 s2 hend fun h' e kp ⟨o, ho, hc⟩ => ?_
  refine wpAny_bind (wpAny_isInstance (T := "StopIteration") (b := true) ⟨o, ho, hc⟩ isSubtype_stop ?_)
  exact wpAny_pure (hQ _ kp)
end
theorem tc_zip3 (a b c : Value) : checkTypeCall "zip" ⟨[a, b, c], []⟩ = pure () := by kernel_rfl
theorem nc_zip3 (a b c : Value) : checkBuiltinCall "zip.__new__" ⟨[.type "zip", a, b, c], []⟩ = pure () := by kernel_rfl
theorem ao_init4 (a b c d : Value) : argsOk "object.__init__" ⟨[a, b, c, d], []⟩ := by
  have e := signature?_of (id := "object.__init__") (n := ['_', '_', 't', 'i', 'n', 'i', '_', '_']) (o := ['t', 'c', 'e', 'j', 'b', 'o']) (by kernel_rfl) PySem.F.owner_object
  unfold argsOk
  rw [e]
  kernel_rfl
abbrev li (l : Nat) : Obj := { cls := .type "list_iterator", data := .fields #[.ref l, .int 0 0] }
abbrev ti (l : Nat) : Obj := { cls := .type "tuple_iterator", data := .fields #[.ref l, .int 0 0] }
abbrev tp (vs : Array Value) : Obj := { cls := .type "tuple", data := .seq vs }
abbrev zp (a b : Nat) : Obj := { cls := .type "zip", data := .fields #[.none, .bool false, .bool false, .ref a, .ref b] }
abbrev hz3a (h : Heap) (l1 l2 l3 : Nat) : Heap := ((h.push (li l1)).push (li l2)).push (li l3)
abbrev hz3b (h : Heap) (l1 l2 l3 : Nat) : Heap := (hz3a h l1 l2 l3).push (tp #[.ref h.objs.size, .ref (h.push (li l1)).objs.size, .ref ((h.push (li l1)).push (li l2)).objs.size])
abbrev hz3c (h : Heap) (l1 l2 l3 : Nat) : Heap := (hz3b h l1 l2 l3).push (tp #[.none, .none, .none])
abbrev hz3 (h : Heap) (l1 l2 l3 : Nat) : Heap := (hz3c h l1 l2 l3).push (zp (hz3a h l1 l2 l3).objs.size (hz3b h l1 l2 l3).objs.size)
theorem mt_zip3 (l1 l2 l3 : Nat) (xs ys zs : Array Value) :
    Meets (Builtin.«zip.__new__» ⟨[.type "zip", .ref l1, .ref l2, .ref l3], []⟩) (fun _ R s => s.heap.IsList l1 xs ∧ s.heap.IsList l2 ys ∧ s.heap.IsList l3 zs ∧
      R (.ok (.ret (.ref (hz3c s.heap l1 l2 l3).objs.size))) { s with heap := hz3 s.heap l1 l2 l3 }) :=
  .of_wp fun prog w A R s h => by
    obtain ⟨hp, g, d, tk, os⟩ := s; obtain ⟨e1, e2, e3, h⟩ := h
    have hsub := sub_zip
    have hL1 : Heap.IsList (Shared.heap ⟨hp, g, d, tk, os⟩) l1 xs := e1
    have hL2 : Heap.IsList (Shared.heap ⟨hp.push (li l1), g, d, tk, os⟩) l2 ys := Heap.IsList.push e2 _
    have hL3 : Heap.IsList (Shared.heap ⟨(hp.push (li l1)).push (li l2), g, d, tk, os⟩) l3 zs := Heap.IsList.push (Heap.IsList.push e3 _) _
    wp_walk using wpAny_pyIter_list hL1, wpAny_pyIter_list hL2, wpAny_pyIter_list hL3
    exact ⟨_, rfl, h⟩
abbrev hz2a (h : Heap) (l1 l2 : Nat) : Heap := (h.push (li l1)).push (ti l2)
abbrev hz2b (h : Heap) (l1 l2 : Nat) : Heap := (hz2a h l1 l2).push (tp #[.ref h.objs.size, .ref (h.push (li l1)).objs.size])
abbrev hz2c (h : Heap) (l1 l2 : Nat) : Heap := (hz2b h l1 l2).push (tp #[.none, .none])
abbrev hz2 (h : Heap) (l1 l2 : Nat) : Heap := (hz2c h l1 l2).push (zp (hz2a h l1 l2).objs.size (hz2b h l1 l2).objs.size)
theorem mt_zipt (l1 l2 : Nat) (xs ys : Array Value) :
    Meets (Builtin.«zip.__new__» ⟨[.type "zip", .ref l1, .ref l2], []⟩) (fun _ R s => s.heap.IsList l1 xs ∧ s.heap.IsTuple l2 ys ∧ R (.ok (.ret (.ref (hz2c s.heap l1 l2).objs.size))) { s with heap := hz2 s.heap l1 l2 }) :=
  .of_wp fun prog w A R s h => by
    obtain ⟨hp, g, d, tk, os⟩ := s; obtain ⟨e1, e2, h⟩ := h
    have hsub := sub_zip
    have hL1 : Heap.IsList (Shared.heap ⟨hp, g, d, tk, os⟩) l1 xs := e1
    have hL2 : Heap.IsTuple (Shared.heap ⟨hp.push (li l1), g, d, tk, os⟩) l2 ys := Heap.IsTuple.push e2 _
    wp_walk using wpAny_pyIter_list hL1, wpAny_pyIter_tuple hL2
    exact ⟨_, rfl, h⟩
section
variable {prog : Program} {w : World} {A : Around} {E : Value → Shared → Prop} {s : Shared}
theorem made_zip3 {l1 l2 l3 : Nat} {xs ys zs : Array Value} {Q : Value → Shared → Prop} (h1 : s.heap.IsList l1 xs) (h2 : s.heap.IsList l2 ys) (h3 : s.heap.IsList l3 zs)
    (h : ∀ h', Z3 s.heap.objs.size (fun i h => h.IsListIter s.heap.objs.size l1 i) (fun i h => h.IsListIter (s.heap.objs.size + 1) l2 i) (fun i h => h.IsListIter (s.heap.objs.size + 2) l3 i) .none 0 0 0 #[.none, .none, .none] h' →
      (∀ c o, s.heap.get? c = some o → h'.get? c = some o) → Q (.ref (s.heap.objs.size + 5)) { s with heap := h' }) : wpAny (model prog w) A (call (.type "zip") [.ref l1, .ref l2, .ref l3]) Q E s := by
  refine callType_new PySem.F.called_zip (by decide) (tc_zip3 _ _ _) (nc_zip3 _ _ _) (fun obj => ao_init4 obj _ _ _) PySem.F.entry_zip_new (mt_zip3 l1 l2 l3 xs ys zs) ⟨h1, h2, h3, ?_⟩
  have z1 : (s.heap.push (li l1)).objs.size = s.heap.objs.size + 1 := Heap.size_push ..
  have z2 : ((s.heap.push (li l1)).push (li l2)).objs.size = s.heap.objs.size + 2 := by rw [Heap.size_push, z1]
  have z3 : (hz3a s.heap l1 l2 l3).objs.size = s.heap.objs.size + 3 := by rw [Heap.size_push, z2]
  have z4 : (hz3b s.heap l1 l2 l3).objs.size = s.heap.objs.size + 4 := by rw [Heap.size_push, z3]
  have z5 : (hz3c s.heap l1 l2 l3).objs.size = s.heap.objs.size + 5 := by rw [Heap.size_push, z4]
  have p1 : ∀ {h : Heap} {c : Addr} {o o' : Obj}, h.get? c = some o → (h.push o').get? c = some o := fun e => Heap.get?_push_of_some _ e
  have g6 : (hz3 s.heap l1 l2 l3).get? (hz3c s.heap l1 l2 l3).objs.size = some _ := Heap.get?_push_size _ rfl
  have g5 : (hz3 s.heap l1 l2 l3).get? (hz3b s.heap l1 l2 l3).objs.size = some _ := p1 (Heap.get?_push_size _ rfl)
  have g4 : (hz3 s.heap l1 l2 l3).get? (hz3a s.heap l1 l2 l3).objs.size = some _ := p1 (p1 (Heap.get?_push_size _ rfl))
  have g3 : (hz3 s.heap l1 l2 l3).get? ((s.heap.push (li l1)).push (li l2)).objs.size = some _ := p1 (p1 (p1 (Heap.get?_push_size _ rfl)))
  have g2 : (hz3 s.heap l1 l2 l3).get? (s.heap.push (li l1)).objs.size = some _ := p1 (p1 (p1 (p1 (Heap.get?_push_size _ rfl))))
  have g1 : (hz3 s.heap l1 l2 l3).get? s.heap.objs.size = some _ := p1 (p1 (p1 (p1 (p1 (Heap.get?_push_size _ rfl)))))
  show _ ∧ _
  rw [z5, z4, z3] at g6
  rw [z4] at g5
  rw [z3, z2, z1] at g4
  rw [z2] at g3
  rw [z1] at g2
  rw [z5]
  exact ⟨⟨_, g6, rfl⟩, h _ ⟨g6, g4, g5, ⟨_, g1, rfl, rfl⟩, ⟨_, g2, rfl, rfl⟩, ⟨_, g3, rfl, rfl⟩⟩ fun c o e => p1 (p1 (p1 (p1 (p1 (p1 e)))))⟩
theorem made_zipt {l1 l2 : Nat} {xs ys : Array Value} {Q : Value → Shared → Prop} (h1 : s.heap.IsList l1 xs) (h2 : s.heap.IsTuple l2 ys)
    (h : ∀ h', Z2 s.heap.objs.size (fun i h => h.IsListIter s.heap.objs.size l1 i) (fun i h => h.IsTupleIter (s.heap.objs.size + 1) l2 i) .none 0 0 #[.none, .none] h' →
      (∀ c o, s.heap.get? c = some o → h'.get? c = some o) → Q (.ref (s.heap.objs.size + 4)) { s with heap := h' }) : wpAny (model prog w) A (call (.type "zip") [.ref l1, .ref l2]) Q E s := by
  refine callType_new PySem.F.called_zip (by decide) (PySem.F.typeCall_zip_2 _ _) (PySem.F.newCall_zip_2 _ _) (fun obj => PySem.F.args_object_init_3 obj _ _) PySem.F.entry_zip_new (mt_zipt l1 l2 xs ys) ⟨h1, h2, ?_⟩
  have z1 : (s.heap.push (li l1)).objs.size = s.heap.objs.size + 1 := Heap.size_push ..
  have z2 : (hz2a s.heap l1 l2).objs.size = s.heap.objs.size + 2 := by rw [Heap.size_push, z1]
  have z3 : (hz2b s.heap l1 l2).objs.size = s.heap.objs.size + 3 := by rw [Heap.size_push, z2]
  have z4 : (hz2c s.heap l1 l2).objs.size = s.heap.objs.size + 4 := by rw [Heap.size_push, z3]
  have p1 : ∀ {h : Heap} {c : Addr} {o o' : Obj}, h.get? c = some o → (h.push o').get? c = some o := fun e => Heap.get?_push_of_some _ e
  have g5 : (hz2 s.heap l1 l2).get? (hz2c s.heap l1 l2).objs.size = some _ := Heap.get?_push_size _ rfl
  have g4 : (hz2 s.heap l1 l2).get? (hz2b s.heap l1 l2).objs.size = some _ := p1 (Heap.get?_push_size _ rfl)
  have g3 : (hz2 s.heap l1 l2).get? (hz2a s.heap l1 l2).objs.size = some _ := p1 (p1 (Heap.get?_push_size _ rfl))
  have g2 : (hz2 s.heap l1 l2).get? (s.heap.push (li l1)).objs.size = some _ := p1 (p1 (p1 (Heap.get?_push_size _ rfl)))
  have g1 : (hz2 s.heap l1 l2).get? s.heap.objs.size = some _ := p1 (p1 (p1 (p1 (Heap.get?_push_size _ rfl))))
  show _ ∧ _
  rw [z4, z3, z2] at g5
  rw [z3] at g4
  rw [z2, z1] at g3
  rw [z1] at g2
  rw [z4]
  exact ⟨⟨_, g5, rfl⟩, h _ ⟨g5, g3, g4, ⟨_, g1, rfl, rfl⟩, ⟨_, g2, rfl, rfl⟩⟩ fun c o e => p1 (p1 (p1 (p1 (p1 e))))⟩
end
end Hs
end
section
set_option Elab.async false
set_option linter.all false
set_option maxRecDepth 100000
set_option maxHeartbeats 4000000
namespace Hs
open PySem PySem.Spec
open PyProof.Rows hiding St
open L2
def Itz3 (K : PySem.W.Frag) (a b c : Addr) : It :=
  ⟨fun i H => ∃ (xs ys zs : List V) (x y z : V), SqL K H a xs ∧ SqL K H b ys ∧ SqL K H c zs ∧ xs[i]? = some x ∧ ys[i]? = some y ∧ zs[i]? = some z,
    fun i H v H' => ∃ T x y z, v = .ref T ∧ H T = none ∧ H' = upd H T (.tup [x, y, z]) ∧ (∀ xs, SqL K H a xs → xs[i]? = some x) ∧ (∀ ys, SqL K H b ys → ys[i]? = some y) ∧ ∀ zs, SqL K H c zs → zs[i]? = some z,
    fun i H => ∃ xs ys zs : List V, SqL K H a xs ∧ SqL K H b ys ∧ SqL K H c zs ∧ (xs.length ≤ i ∨ ys.length ≤ i ∨ zs.length ≤ i)⟩
def Itzt (K : PySem.W.Frag) (a b : Addr) : It :=
  ⟨fun i H => ∃ (xs ys : List V) (x y : V), SqL K H a xs ∧ SqT K H b ys ∧ xs[i]? = some x ∧ ys[i]? = some y,
    fun i H v H' => ∃ T x y, v = .ref T ∧ H T = none ∧ H' = upd H T (.tup [x, y]) ∧ (∀ xs, SqL K H a xs → xs[i]? = some x) ∧ ∀ ys, SqT K H b ys → ys[i]? = some y,
    fun i H => ∃ xs ys : List V, SqL K H a xs ∧ SqT K H b ys ∧ (xs.length ≤ i ∨ ys.length ≤ i)⟩
theorem turn_zip3 {P : Program} {w : World} {K : PySem.W.Frag} {elts : List Expr} {kk : Nat} {tpos : Pos} {a b c N : Nat} (na : a < N) (nb : b < N) (nc : c < N) :
    Turn P w K (.Tuple elts kk tpos) (Itz3 K a b c) [N + 5, N + 3, N + 4, N, N + 1, N + 2] (N + 5)
      (fun i h => ∃ u1 u2 u3, Z3 N (fun i h => h.IsListIter N a i) (fun i h => h.IsListIter (N + 1) b i) (fun i h => h.IsListIter (N + 2) c i) .none i i i #[u1, u2, u3] h) where
  mem := by simp
  obj := fun i h st q hq => by
    obtain ⟨u1, u2, u3, Z⟩ := st
    obtain ⟨o1, e1, _, d1⟩ := Z.a1
    obtain ⟨o2, e2, _, d2⟩ := Z.a2
    obtain ⟨o3, e3, _, d3⟩ := Z.a3
    have e' : q = N + 5 ∨ q = N + 3 ∨ q = N + 4 ∨ q = N ∨ q = N + 1 ∨ q = N + 2 := by simpa using hq
    rcases e' with z | z | z | z | z | z
    · rw [z]; exact ⟨_, Z.zip, fun v q => nomatch q⟩
    · rw [z]; exact ⟨_, Z.its, fun v q => nomatch q⟩
    · rw [z]; exact ⟨_, Z.own, fun v q => nomatch q⟩
    · rw [z]; exact ⟨o1, e1, fun v q => by rw [d1] at q; cases q⟩
    · rw [z]; exact ⟨o2, e2, fun v q => by rw [d2] at q; cases q⟩
    · rw [z]; exact ⟨o3, e3, fun v q => by rw [d3] at q; cases q⟩
  keep := fun i h h' st k => by
    obtain ⟨u1, u2, u3, Z⟩ := st
    exact ⟨u1, u2, u3, k _ (by simp) _ Z.zip, k _ (by simp) _ Z.its, k _ (by simp) _ Z.own, Z.a1.at fun o q => k N (by simp) o q, Z.a2.at fun o q => k (N + 1) (by simp) o q, Z.a3.at fun o q => k (N + 2) (by simp) o q⟩
  item := by
    intro X hP hw hK hc i pins s σ H E I hf st hg
    subst hP hw hK
    obtain ⟨u1, u2, u3, Z⟩ := st
    obtain ⟨xs, ys, zs, x, y, z, qx, qy, qz, hx, hy, hz⟩ := hg
    obtain ⟨its, rv, p, _⟩ := I.list qx
    obtain ⟨its2, rv2, p2, _⟩ := I.list qy
    obtain ⟨its3, rv3, p3, _⟩ := I.list qz
    obtain ⟨v1, hv1, ru1⟩ := rv.get hx
    obtain ⟨v2, hv2, ru2⟩ := rv2.get hy
    obtain ⟨v3, hv3, ru3⟩ := rv3.get hz
    have big : N + 5 < s.heap.objs.size := Heap.lt_size Z.zip
    refine z3_next na nb nc (drw_list (xs := its.toArray)) (drw_list (xs := its2.toArray)) (drw_list (xs := its3.toArray)) Z p.isList p2.isList p3.isList (x := v1) (y := v2) (z := v3) (by simpa using hv1) (by simpa using hv2) (by simpa using hv3) fun h' Z' hT hk => ?_
    refine ⟨_, rfl, wpAny_letOwnedTupleGo_zip (s := { s with heap := h' }) Z'.zip fun h'' z'' sb => ?_⟩
    have hT2 : h''.get? s.heap.objs.size = some { cls := .type "tuple", data := .seq #[v1, v2, v3] } := (sb.2 _ (ad (by omega))).trans hT
    have new : ObjOk X.prog X.w (upd H s.heap.objs.size (.tup [x, y, z])) h'' s.heap.objs.size (.tup [x, y, z]) :=
      ⟨by show 3 ≤ sizeLine; decide, [v1, v2, v3], .cons ru1 (.cons ru2 (.cons ru3 .nil)), ⟨_, hT2, rfl, _, rfl⟩⟩
    have I1 : Inv X pins σ (upd H s.heap.objs.size (.tup [x, y, z])) { s with heap := h'' } :=
      I.turnedNew (t' := s.toks) (ch := [N + 5, N + 3, N + 4, N, N + 1, N + 2]) (fun q o hb e => (sb.2 q (fun z => hb (by simp [z]))).trans (hk q o (fun z => hb (by simp [z])) (fun z => hb (by simp [z])) (fun z => hb (by simp [z])) (fun z => hb (by simp [z])) (fun z => hb (by simp [z])) e)) hf (Nat.le_refl _) new
    refine ⟨.ref s.heap.objs.size, _, I1, rfl, ⟨_, x, y, z, rfl, I.hok.fresh (Nat.le_refl _), rfl, fun l hl => by rw [I.list_inj hl qx]; exact hx, fun l hl => by rw [I.list_inj hl qy]; exact hy, fun l hl => by rw [I.list_inj hl qz]; exact hz⟩, ⟨v1, v2, v3, z'', ?_, ?_, ?_, ?_, ?_⟩, fun q hq => ?_⟩
    · exact (sb.2 _ (ad (by omega))).trans Z'.its
    · exact (sb.2 _ (ad (by omega))).trans Z'.own
    · exact Z'.a1.at fun o q => (sb.2 _ (ad (by omega))).trans q
    · exact Z'.a2.at fun o q => (sb.2 _ (ad (by omega))).trans q
    · exact Z'.a3.at fun o q => (sb.2 _ (ad (by omega))).trans q
    · have hlt : q < s.heap.objs.size := by
        have e' : q = N + 5 ∨ q = N + 3 ∨ q = N + 4 ∨ q = N ∨ q = N + 1 ∨ q = N + 2 := by simpa using hq
        have hb' : (q : Nat) ≤ N + 5 := by
          rcases e' with z | z | z | z | z | z <;> rw [z] <;> first | exact Nat.le_refl _ | exact Nat.add_le_add_left (by decide) N | exact Nat.le_add_right _ _
        exact Nat.lt_of_le_of_lt hb' big
      rw [upd_ne (Nat.ne_of_lt hlt)]
      exact (hf q hq).1
  done := by
    intro X hP hw hK hc i pins s σ H E I hf st hg
    subst hP hw hK
    obtain ⟨u1, u2, u3, Z⟩ := st
    obtain ⟨xs, ys, zs, qx, qy, qz, hend⟩ := hg
    obtain ⟨its, rv, p, _⟩ := I.list qx
    obtain ⟨its2, rv2, p2, _⟩ := I.list qy
    obtain ⟨its3, rv3, p3, _⟩ := I.list qz
    have e1 := rv.length
    have e2 := rv2.length
    have e3 := rv3.length
    have he : its.toArray[i]? = none ∨ its2.toArray[i]? = none ∨ its3.toArray[i]? = none := by
      rcases hend with q | q | q
      · exact .inl (by simp; omega)
      · exact .inr (.inl (by simp; omega))
      · exact .inr (.inr (by simp; omega))
    exact z3_over (I.ok.hd hc) na nb nc (drw_list (xs := its.toArray)) (drw_list (xs := its2.toArray)) (drw_list (xs := its3.toArray)) Z p.isList p2.isList p3.isList he fun h' hk => ⟨rfl, I.turnedL (t' := s.toks) (ch := [N + 5, N + 3, N + 4, N, N + 1, N + 2]) (fun q o hb e =>
      hk q o (fun z => hb (by simp [z])) (fun z => hb (by simp [z])) (fun z => hb (by simp [z])) (fun z => hb (by simp [z])) (fun z => hb (by simp [z])) e) hf⟩
  self := fun A i s Q E st h => let ⟨_, _, _, Z⟩ := st; wpAny_pyIter_zip Z.zip h
theorem turn_zipt {P : Program} {w : World} {K : PySem.W.Frag} {elts : List Expr} {kk : Nat} {tpos : Pos} {a b N : Nat} (na : a < N) (nb : b < N) :
    Turn P w K (.Tuple elts kk tpos) (Itzt K a b) [N + 4, N + 2, N + 3, N, N + 1] (N + 4)
      (fun i h => ∃ u1 u2, Z2 N (fun i h => h.IsListIter N a i) (fun i h => h.IsTupleIter (N + 1) b i) .none i i #[u1, u2] h) where
  mem := by simp
  obj := fun i h st q hq => by
    obtain ⟨u1, u2, Z⟩ := st
    obtain ⟨o1, e1, _, d1⟩ := Z.a1
    obtain ⟨o2, e2, _, d2⟩ := Z.a2
    have e' : q = N + 4 ∨ q = N + 2 ∨ q = N + 3 ∨ q = N ∨ q = N + 1 := by simpa using hq
    rcases e' with z | z | z | z | z
    · rw [z]; exact ⟨_, Z.zip, fun v q => nomatch q⟩
    · rw [z]; exact ⟨_, Z.its, fun v q => nomatch q⟩
    · rw [z]; exact ⟨_, Z.own, fun v q => nomatch q⟩
    · rw [z]; exact ⟨o1, e1, fun v q => by rw [d1] at q; cases q⟩
    · rw [z]; exact ⟨o2, e2, fun v q => by rw [d2] at q; cases q⟩
  keep := fun i h h' st k => by
    obtain ⟨u1, u2, Z⟩ := st
    exact ⟨u1, u2, k _ (by simp) _ Z.zip, k _ (by simp) _ Z.its, k _ (by simp) _ Z.own, Z.a1.at fun o q => k N (by simp) o q, Z.a2.at fun o q => k (N + 1) (by simp) o q⟩
  item := by
    intro X hP hw hK hc i pins s σ H E I hf st hg
    subst hP hw hK
    obtain ⟨u1, u2, Z⟩ := st
    obtain ⟨xs, ys, x, y, qx, qy, hx, hy⟩ := hg
    obtain ⟨its, rv, p, _⟩ := I.list qx
    obtain ⟨its2, rv2, p2, _⟩ := I.tuple qy
    obtain ⟨v1, hv1, ru1⟩ := rv.get hx
    obtain ⟨v2, hv2, ru2⟩ := rv2.get hy
    have big : N + 4 < s.heap.objs.size := Heap.lt_size Z.zip
    refine z2_next na nb (drw_list (xs := its.toArray)) (drw_tup (xs := its2.toArray)) Z p.isList p2 (x := v1) (y := v2) (by simpa using hv1) (by simpa using hv2) fun h' Z' hT hk => ?_
    refine ⟨_, rfl, wpAny_letOwnedTupleGo_zip (s := { s with heap := h' }) Z'.zip fun h'' z'' sb => ?_⟩
    have hT2 : h''.get? s.heap.objs.size = some { cls := .type "tuple", data := .seq #[v1, v2] } := (sb.2 _ (ad (by omega))).trans hT
    have new : ObjOk X.prog X.w (upd H s.heap.objs.size (.tup [x, y])) h'' s.heap.objs.size (.tup [x, y]) :=
      ⟨by show 2 ≤ sizeLine; decide, [v1, v2], .cons ru1 (.cons ru2 .nil), ⟨_, hT2, rfl, _, rfl⟩⟩
    have I1 : Inv X pins σ (upd H s.heap.objs.size (.tup [x, y])) { s with heap := h'' } :=
      I.turnedNew (t' := s.toks) (ch := [N + 4, N + 2, N + 3, N, N + 1]) (fun q o hb e => (sb.2 q (fun z => hb (by simp [z]))).trans (hk q o (fun z => hb (by simp [z])) (fun z => hb (by simp [z])) (fun z => hb (by simp [z])) (fun z => hb (by simp [z])) e)) hf (Nat.le_refl _) new
    refine ⟨.ref s.heap.objs.size, _, I1, rfl, ⟨_, x, y, rfl, I.hok.fresh (Nat.le_refl _), rfl, fun l hl => by rw [I.list_inj hl qx]; exact hx, fun l hl => by rw [I.tuple_inj hl qy]; exact hy⟩, ⟨v1, v2, z'', ?_, ?_, ?_, ?_⟩, fun q hq => ?_⟩
    · exact (sb.2 _ (ad (by omega))).trans Z'.its
    · exact (sb.2 _ (ad (by omega))).trans Z'.own
    · exact Z'.a1.at fun o q => (sb.2 _ (ad (by omega))).trans q
    · exact Z'.a2.at fun o q => (sb.2 _ (ad (by omega))).trans q
    · have hlt : q < s.heap.objs.size := by
        have e' : q = N + 4 ∨ q = N + 2 ∨ q = N + 3 ∨ q = N ∨ q = N + 1 := by simpa using hq
        have hb' : (q : Nat) ≤ N + 4 := by
          rcases e' with z | z | z | z | z <;> rw [z] <;> first | exact Nat.le_refl _ | exact Nat.add_le_add_left (by decide) N | exact Nat.le_add_right _ _
        exact Nat.lt_of_le_of_lt hb' big
      rw [upd_ne (Nat.ne_of_lt hlt)]
      exact (hf q hq).1
  done := by
    intro X hP hw hK hc i pins s σ H E I hf st hg
    subst hP hw hK
    obtain ⟨u1, u2, Z⟩ := st
    obtain ⟨xs, ys, qx, qy, hend⟩ := hg
    obtain ⟨its, rv, p, _⟩ := I.list qx
    obtain ⟨its2, rv2, p2, _⟩ := I.tuple qy
    have e1 := rv.length
    have e2 := rv2.length
    have he : its.toArray[i]? = none ∨ its2.toArray[i]? = none := by
      rcases hend with q | q
      · exact .inl (by simp; omega)
      · exact .inr (by simp; omega)
    exact z2_over (I.ok.hd hc) na nb (drw_list (xs := its.toArray)) (drw_tup (xs := its2.toArray)) Z p.isList p2 he fun h' hk => ⟨rfl, I.turnedL (t' := s.toks) (ch := [N + 4, N + 2, N + 3, N, N + 1]) (fun q o hb e =>
      hk q o (fun z => hb (by simp [z])) (fun z => hb (by simp [z])) (fun z => hb (by simp [z])) (fun z => hb (by simp [z])) e) hf⟩
  self := fun A i s Q E st h => let ⟨_, _, Z⟩ := st; wpAny_pyIter_zip Z.zip h
def iZip3 (K : PySem.W.Frag) (ta : TA) : TI := fun σ H R => ta σ H fun vs H1 => ∃ a b c xs ys zs, vs = [.ref a, .ref b, .ref c] ∧ SqL K H1 a xs ∧ SqL K H1 b ys ∧ SqL K H1 c zs ∧ R (Itz3 K a b c) H1
def iZipT (K : PySem.W.Frag) (ta : TA) : TI := fun σ H R => ta σ H fun vs H1 => ∃ a b xs ys, vs = [.ref a, .ref b] ∧ SqL K H1 a xs ∧ SqT K H1 b ys ∧ R (Itzt K a b) H1
theorem pi_zip3 {X : Cx} {e e2 e3 : Expr} {ta : TA} {p pos tpos : Pos} {elts : List Expr} {kk : Nat} (hg : Gl X "zip") (hm : X.mg "zip" = none) (ha : PA X [e, e2, e3] ta)
    (hs : starEach [e, e2, e3] X.env = (false, eval e X.env) :: starEach [e2, e3] X.env := by rfl) (hpl : (backTo pos (starEach [e2, e3] X.env)).any (·.1) = false := by rfl) :
    PI X (.Tuple elts kk tpos) (.Call (.Name "zip" p) [e, e2, e3] [] pos) (iZip3 X.K ta) := by
  intro pins s σ H R I h
  refine Call_ (ld_blt I hg hm boot_zip5 (PyProof.Rows.callWith_type1 (thn (ha pos pins s σ H _ I h) fun us s1 ⟨vs, H1, I1, r1, q1⟩ => ?_) hs hpl))
  obtain ⟨a, b, c, xs, ys, zs, ex, qx, qy, qz, q⟩ := q1
  subst ex
  cases r1 with
  | cons r rr =>
    cases rr with
    | cons r' rr =>
      cases rr with
      | cons r'' rr =>
        cases rr
        cases r
        cases r'
        cases r''
        obtain ⟨its, rv, p1, _⟩ := I1.list qx
        obtain ⟨its2, rv2, p2, _⟩ := I1.list qy
        obtain ⟨its3, rv3, p3, _⟩ := I1.list qz
        refine made_zip3 p1.isList p2.isList p3.isList fun h' Z hk => wpAny_pyIter_zip Z.zip ?_
        have I2 : Inv X pins σ H1 { s1 with heap := h' } := I1.kept (t' := s1.toks) hk
        refine ⟨s1.heap.objs.size + 5, [s1.heap.objs.size + 5, s1.heap.objs.size + 3, s1.heap.objs.size + 4, s1.heap.objs.size, s1.heap.objs.size + 1, s1.heap.objs.size + 2], _, _, H1, rfl, I2, turn_zip3 p1.lt p2.lt p3.lt, ⟨_, _, _, Z⟩, fun q hq => ?_, q⟩
        have e' : q = s1.heap.objs.size + 5 ∨ q = s1.heap.objs.size + 3 ∨ q = s1.heap.objs.size + 4 ∨ q = s1.heap.objs.size ∨ q = s1.heap.objs.size + 1 ∨ q = s1.heap.objs.size + 2 := by simpa using hq
        have hle : s1.heap.objs.size ≤ q := by
          rcases e' with z | z | z | z | z | z <;> rw [z] <;> first | exact Nat.le_refl _ | exact Nat.le_add_right _ _
        exact I1.fpOk hle (I1.hok.fresh hle)
theorem pi_zipT {X : Cx} {e e2 : Expr} {ta : TA} {p pos tpos : Pos} {elts : List Expr} {kk : Nat} (hg : Gl X "zip") (hm : X.mg "zip" = none) (ha : PA X [e, e2] ta)
    (hs : starEach [e, e2] X.env = (false, eval e X.env) :: starEach [e2] X.env := by rfl) (hpl : (backTo pos (starEach [e2] X.env)).any (·.1) = false := by rfl) :
    PI X (.Tuple elts kk tpos) (.Call (.Name "zip" p) [e, e2] [] pos) (iZipT X.K ta) := by
  intro pins s σ H R I h
  refine Call_ (ld_blt I hg hm boot_zip5 (PyProof.Rows.callWith_type1 (thn (ha pos pins s σ H _ I h) fun us s1 ⟨vs, H1, I1, r1, q1⟩ => ?_) hs hpl))
  obtain ⟨a, b, xs, ys, ex, qx, qy, q⟩ := q1
  subst ex
  cases r1 with
  | cons r rr =>
    cases rr with
    | cons r' rr =>
      cases rr
      cases r
      cases r'
      obtain ⟨its, rv, p1, _⟩ := I1.list qx
      obtain ⟨its2, rv2, p2, _⟩ := I1.tuple qy
      have lb : b < s1.heap.objs.size := by obtain ⟨o, ho, _⟩ := p2; exact Heap.lt_size ho
      refine made_zipt p1.isList p2 fun h' Z hk => wpAny_pyIter_zip Z.zip ?_
      have I2 : Inv X pins σ H1 { s1 with heap := h' } := I1.kept (t' := s1.toks) hk
      refine ⟨s1.heap.objs.size + 4, [s1.heap.objs.size + 4, s1.heap.objs.size + 2, s1.heap.objs.size + 3, s1.heap.objs.size, s1.heap.objs.size + 1], _, _, H1, rfl, I2, turn_zipt p1.lt lb, ⟨_, _, Z⟩, fun q hq => ?_, q⟩
      have e' : q = s1.heap.objs.size + 4 ∨ q = s1.heap.objs.size + 2 ∨ q = s1.heap.objs.size + 3 ∨ q = s1.heap.objs.size ∨ q = s1.heap.objs.size + 1 := by simpa using hq
      have hle : s1.heap.objs.size ≤ q := by
        rcases e' with z | z | z | z | z <;> rw [z] <;> first | exact Nat.le_refl _ | exact Nat.le_add_right _ _
      exact I1.fpOk hle (I1.hok.fresh hle)
section
variable {K : PySem.W.Frag} {a b c : Addr} {xs ys zs : List V}
theorem wk_zip3 : Wk (Itz3 K a b c) (fun H => SqL K H a xs ∧ SqL K H b ys ∧ SqL K H c zs) (min xs.length (min ys.length zs.length)) (fun i v H => ∃ T x y z, v = .ref T ∧ H T = some (.tup [x, y, z]) ∧ xs[i]? = some x ∧ ys[i]? = some y ∧ zs[i]? = some z) where
  go := fun i H q hlt => ⟨xs, ys, zs, xs[i]'(by omega), ys[i]'(by omega), zs[i]'(by omega), q.1, q.2.1, q.2.2, by rw [List.getElem?_eq_getElem (by omega)], by rw [List.getElem?_eq_getElem (by omega)], by rw [List.getElem?_eq_getElem (by omega)]⟩
  stop := fun H q => ⟨xs, ys, zs, q.1, q.2.1, q.2.2, by omega⟩
  yld := fun i H x H' q hlt y => by
    obtain ⟨T, z, z2, z3, e1, e2, e3, y, y2, y3⟩ := y
    subst e3
    exact ⟨Sm.one e2, T, z, z2, z3, e1, upd_same, y xs q.1, y2 ys q.2.1, y3 zs q.2.2⟩
theorem wk_zipT : Wk (Itzt K a b) (fun H => SqL K H a xs ∧ SqT K H b ys) (min xs.length ys.length) (fun i v H => ∃ T x y, v = .ref T ∧ H T = some (.tup [x, y]) ∧ xs[i]? = some x ∧ ys[i]? = some y) where
  go := fun i H q hlt => ⟨xs, ys, xs[i]'(by omega), ys[i]'(by omega), q.1, q.2, by rw [List.getElem?_eq_getElem (by omega)], by rw [List.getElem?_eq_getElem (by omega)]⟩
  stop := fun H q => ⟨xs, ys, q.1, q.2, by omega⟩
  yld := fun i H x H' q hlt y => by
    obtain ⟨T, z, z2, e1, e2, e3, y, y2⟩ := y
    subst e3
    exact ⟨Sm.one e2, T, z, z2, e1, upd_same, y xs q.1, y2 ys q.2⟩
theorem gTriple {i j k : Nat} {T : Addr} {x y z : V} {σ : St} {H : Hp} {Q : St → Hp → Prop} (h : H T = some (.tup [x, y, z])) (q : Q (((σ.set i (some x)).set j (some y)).set k (some z)) H) :
    gTup K 3 (gCons (gName i) (gCons (gName j) (gCons (gName k) gNil))) (.ref T) σ H Q := ⟨T, _, rfl, SqT.of h, rfl, _, _, rfl, _, _, rfl, _, _, rfl, rfl, q⟩
end
theorem pg_triple {X : Cx} {K : PySem.W.Frag} {i j k n : Nat} {x y z : Str} {p1 p2 p3 p4 : Pos} (hK : X.K = K) (hc : X.calm = true) (hN : X.N.Nodup) (hi : X.N[i]? = some x) (hj : X.N[j]? = some y) (hk : X.N[k]? = some z) (hx : Loc X.env.scope x) (hy : Loc X.env.scope y) (hz : Loc X.env.scope z)
    (hf : X.fn x = true ∨ X.env.scope.names.lookup x = some .local := by first | exact .inl rfl | exact .inr rfl) (hf' : X.fn y = true ∨ X.env.scope.names.lookup y = some .local := by first | exact .inl rfl | exact .inr rfl) (hf2 : X.fn z = true ∨ X.env.scope.names.lookup z = some .local := by first | exact .inl rfl | exact .inr rfl) :
    PG X (.Tuple [.Name x p1, .Name y p2, .Name z p4] n p3) (gTup K 3 (gCons (gName i) (gCons (gName j) (gCons (gName k) gNil)))) := by
  subst hK
  exact pg_tup hc (pgs_cons (pg_name hN hi hx hf) (pgs_cons (pg_name hN hj hy hf') (pgs_cons (pg_name hN hk hz hf2) pgs_nil)))
end Hs
end
section
set_option Elab.async false
set_option linter.all false
set_option maxRecDepth 100000
set_option maxHeartbeats 4000000
namespace Hs
open PySem PySem.Spec
open PyProof.Rows hiding St
open L2
theorem lcG {J : It} {S : Hp → Prop} {n : Nat} {R : Nat → V → Hp → Prop} {g : TG} {te : TE} {vs : List Nat} {σ : St} {H1 : Hp} {D : Addr} {Qd : Hp → Prop} (hD : H1 D = none) (wk : Wk J S n R) (hn : n ≤ sizeLine) (hS : ∀ H', Same H1 H' → S H')
    (G : Nat → List V → Hp → Prop) (g0 : G 0 [] H1) (gk : ∀ i acc H H', G i acc H → (∀ b o, b ≠ D → H b = some o → H' b = some o) → G i acc H') (gl : ∀ i acc H, G i acc H → acc.length = i)
    (step : ∀ i x H' acc (Q' : V → Hp → Prop) (N : Hp → Prop), i < n → Same H1 H' → R i x H' → G i acc H' → H' D = some (.lst acc) → (∀ y H4, Same H' H4 → G (i + 1) (acc ++ [y]) H4 → Q' y H4) →
      g x (wipe σ vs) H' fun σ2 H2 => wipe σ2 vs = wipe σ vs ∧ tYes σ2 H2 fun b H3 => if b = true then te σ2 H3 Q' else N H3)
    (fin : ∀ H' acc, Same H1 H' → H' D = some (.lst acc) → G n acc H' → Qd H') :
    ∃ W : Nat → Nat → Hp → Prop, (∃ m, W 0 m (upd H1 D (.lst []))) ∧ ∀ i m H, W i m H →
      (J.stop i H ∧ Qd H) ∨ (J.go i H ∧ ∃ Nx : Hp → Prop, (∀ H', Nx H' → ∃ m', m' < m ∧ W (i + 1) m' H') ∧ ∀ x H', J.yld i H x H' → g x (wipe σ vs) H' fun σ2 H2 => wipe σ2 vs = wipe σ vs ∧ tYes σ2 H2 fun b H3 =>
        if b = true then te σ2 H3 fun y H4 => ∃ acc, H4 D = some (.lst acc) ∧ acc.length < sizeLine ∧ Nx (upd H4 D (.lst (acc ++ [y]))) else Nx H3) := by
  refine ⟨fun i m H => m = n - i ∧ i ≤ n ∧ Same H1 H ∧ ∃ acc, H D = some (.lst acc) ∧ G i acc H, ⟨n, by simp, Nat.zero_le _, Sm.one hD, [], upd_same, gk 0 [] H1 _ g0 fun b o hb e => by rw [upd_ne hb]; exact e⟩, ?_⟩
  rintro i m H ⟨rfl, hi, s, acc, hL, hG⟩
  by_cases hlt : i < n
  · refine .inr ⟨wk.go i H (hS H s) hlt, fun H' => i + 1 ≤ n ∧ Same H1 H' ∧ ∃ acc, H' D = some (.lst acc) ∧ G (i + 1) acc H', fun H' ⟨a, b, c⟩ => ⟨n - (i + 1), by omega, rfl, a, b, c⟩, fun x H' y => ?_⟩
    obtain ⟨s2, r⟩ := wk.yld i H x H' (hS H s) hlt y
    have s3 : Same H1 H' := s.trans s2
    have hL2 := s2 _ _ hL
    have hG2 := gk i acc H H' hG fun b o _ e => s2 b o e
    have hal := gl i acc H hG
    refine step i x H' acc _ _ hlt s3 r hG2 hL2 fun y H4 s4 g4 => ?_
    refine ⟨acc, s4 _ _ hL2, by omega, hlt, Sm.over (s3.trans s4) hD, acc ++ [y], upd_same, gk _ _ H4 _ g4 fun b o hb e => by rw [upd_ne hb]; exact e⟩
  · have e : i = n := by omega
    subst e
    exact .inl ⟨wk.stop H (hS H s), fin H acc s hL hG⟩
theorem cut_mid {xs : List Int} {lo n : Nat} (h : lo + n ≤ xs.length) : cutV (xs.map V.int) (some (lo : Int)) (some ((lo : Int) + (n : Int))) = ((xs.drop lo).take n).map V.int := by
  unfold cutV HT.sIx
  simp only [List.length_map]
  rw [if_neg (by omega), if_neg (by omega), show ((lo : Int) + (n : Int)).toNat = lo + n by omega, Int.toNat_natCast, Nat.min_eq_left (show lo ≤ xs.length by omega), Nat.min_eq_left h, show lo + n - lo = n by omega, List.map_take, List.map_drop]
theorem ndec_if {c A B : Prop} [Decidable c] (h1 : c → B) (h2 : ¬ c → A) : if (!decide c) = true then A else B := by
  by_cases e : c
  · rw [decide_eq_true e]; exact iteF (h1 e)
  · rw [decide_eq_false e]; exact iteT (h2 e)
def rowOk (way : List Int) (need : Int) (row : List Int) : Bool := decide (way.sum = need) && (way.zip row).all fun z => decide (z.1 ≤ z.2)
def isSched (h : HS) (ws : List (List Int)) : Bool := (ws.zip (loadsOf h)).all fun y => rowOk y.1 y.2.need y.2.rooms
section
variable {P : Program} {w : World} {K : PySem.W.Frag} {mg : Str → Option Value} {base : Heap} {C : Addr}
abbrev sSched : Stmt := top 34
abbrev nSched : List Str := ["house", "ways", "way", "need", "rooms", "amount", "room"]
theorem scSched : FnScope nSched ["house", "ways"] (defScope sSched) := ⟨rfl, rfl, rfl, by decide +kernel, rfl, by decide +kernel, by decide +kernel⟩
def Rows (H : Hp) (ps : List Addr) (ws : List (List Int)) : Prop := ps.length = ws.length ∧ ∀ (j : Nat) (p : Addr) (row : List Int), ps[j]? = some p → ws[j]? = some row → LI H p row
def spSched (C : Addr) : Sp := fun vs H Q _ => ∃ (a : Addr) (d : HAd) (h : HS) (p : Addr) (ps : List Addr) (ws : List (List Int)), vs = [.ref a, .ref p] ∧ HAt C H a d h ∧ HGood h ∧ H p = some (.lst (ps.map V.ref)) ∧ Rows H ps ws ∧ ws.length = h.needs.length ∧
  ∀ H' : Hp, Same H H' → Q (.bl (isSched h ws)) H'
theorem ref_at {ps : List Addr} {i : Nat} {x : V} (h : (ps.map V.ref)[i]? = some x) : ∃ p, ps[i]? = some p ∧ x = .ref p := by
  rw [List.getElem?_map] at h
  cases e : ps[i]? with
  | none => rw [e] at h; cases h
  | some z => rw [e] at h; exact ⟨z, rfl, (Option.some.inj h).symm⟩
theorem ok_sched {f : Addr} {fd : FuncData} (F : Fun K "is_schedule" "is_schedule" sSched f fd) (B : Bi mg) (T : HC K C) : FnOk P w K mg base CX0 1 f fd ["house", "ways"] (spSched C) := by
  refine F.ok scSched (fun vs H Q E h => ?_) (fun cdv A outer s H vs Q E hr h => ?_)
  · obtain ⟨a, d, h, p, ps, ws, rfl, _⟩ := h
    rfl
  · obtain ⟨a, d, h, p, ps, ws, rfl, x, hg, hp, ⟨hpl, hrows⟩, hwl, k⟩ := h
    have nd := scSched.nd
    refine ⟨_, pss_cons (ps_for PassesOwn.never rfl (pi_zip3 rfl B.zip (pa_cons (pv 1) (pa_cons (pe_fld (pv 0) rfl) (pa_cons (pe_fld (pv 0) rfl) pa_nil)))) (pg_triple (K := K) (i := 2) (j := 3) (k := 4) rfl rfl nd rfl rfl rfl (Or.inl rfl) (Or.inl rfl) (Or.inl rfl))
        (pss_cons (ps_if (pt_cmp (pc_neI (pe_callB (cr_sum rfl) rfl B.sum bt_sum (pa_cons (pv 2) pa_nil)) (pv 3))) (pss_one (ps_ret pe_bl)) pss_nil)
        (pss_one (ps_for PassesOwn.never rfl (pi_zip rfl B.zip (pa_cons (pv 2) (pa_cons (pv 4) pa_nil))) (pg_pair (K := K) (i := 5) (j := 6) rfl rfl nd rfl rfl (Or.inl rfl) (Or.inl rfl))
          (pss_one (ps_if (pt_cmp (pc_gt (pv 5) (pv 6))) (pss_one (ps_ret pe_bl)) pss_nil))))))
      (pss_one (ps_ret pe_bl)), ?_⟩
    have bad : ∀ (i : Nat) (way : List Int) (ld : Vbemat.Load), ws[i]? = some way → (loadsOf h)[i]? = some ld → rowOk way ld.need ld.rooms = false → isSched h ws = false := fun i way ld e1 e2 e3 => by
      unfold isSched
      rw [List.all_eq_false]
      refine ⟨(way, ld), List.mem_of_getElem? (List.getElem?_zip_eq_some.mpr ⟨e1, e2⟩), ?_⟩
      rw [e3]; exact Bool.false_ne_true
    refine ⟨_, rfl, _, rfl, a, C, _, _, _, rfl, x.ins, T.cl, T.needs, hf_needs .., _, rfl, a, C, _, _, _, rfl, x.ins, T.cl, T.rooms, hf_rooms .., ?_⟩
    refine ⟨p, d.pn, d.pr, _, _, _, rfl, SqL.of hp, SqL.of x.n, SqL.of x.r, forW wk_zip3 (fun i σ H' => ∃ v2 v3 v4 v5 v6 : Option V, σ = [some (.ref a), some (.ref p), v2, v3, v4, v5, v6] ∧ Same H H' ∧ ∀ j way ld, j < i → ws[j]? = some way → (loadsOf h)[j]? = some ld → rowOk way ld.need ld.rooms = true)
      ⟨none, none, none, none, none, rfl, Same.refl H, fun j _ _ hj => absurd hj (Nat.not_lt_zero j)⟩ (fun _ _ H' _ ⟨_, _, _, _, _, _, s, _⟩ => ⟨SqL.of (s _ _ hp), SqL.of (x.same s).n, SqL.of (x.same s).r⟩) ?_ ?_⟩
    · rintro i y σ H1 H2 hi ⟨v2, v3, v4, v5, v6, rfl, s1, hok⟩ s2 ⟨T1, y1, y2, y3, rfl, hT, hy1, hy2, hy3⟩
      obtain ⟨wp, hwp, rfl⟩ := ref_at hy1
      obtain ⟨need, hneed, rfl⟩ := int_at hy2
      obtain ⟨rp, hrp, rfl⟩ := ref_at hy3
      have hiw : i < ws.length := by rw [← hpl]; exact (List.getElem?_eq_some_iff.mp hwp).1
      have hir : i < h.rooms.length := by rw [← x.rl]; exact (List.getElem?_eq_some_iff.mp hrp).1
      obtain ⟨way, hway⟩ : ∃ way, ws[i]? = some way := ⟨_, List.getElem?_eq_getElem hiw⟩
      obtain ⟨row, hrow⟩ : ∃ row, h.rooms[i]? = some row := ⟨_, List.getElem?_eq_getElem hir⟩
      have hld := loads_at hneed hrow
      have s12 := s1.trans s2
      have hw2 : LI H2 wp way := s12 _ _ (hrows i wp way hwp hway)
      have hr2 : LI H2 rp row := s12 _ _ (x.rows i rp row hrp hrow)
      refine gTriple hT ?_
      refine ⟨_, rfl, wp, way, rfl, SqL.of hw2, _, rfl, _, _, rfl, rfl, _, rfl, ?_⟩
      refine ndec_if (c := way.sum = need) (fun c => ?_) (fun c => ?_)
      · skip
        refine ⟨_, rfl, _, rfl, wp, rp, _, _, rfl, SqL.of hw2, SqL.of hr2, forW wk_zip (fun j σ H' => ∃ v5 v6 : Option V, σ = [some (.ref a), some (.ref p), some (.ref wp), some (.int need), some (.ref rp), v5, v6] ∧ Same H2 H' ∧ ∀ j' u v, j' < j → way[j']? = some u → row[j']? = some v → u ≤ v)
          ⟨v5, v6, rfl, Same.refl H2, fun j _ _ hj => absurd hj (Nat.not_lt_zero j)⟩ (fun _ _ H' _ ⟨_, _, _, s, _⟩ => ⟨SqL.of (s _ _ hw2), SqL.of (s _ _ hr2)⟩) ?_ ?_⟩
        · rintro j y σ H3 H4 hj ⟨v5, v6, rfl, s3, hle⟩ s4 ⟨T2, z1, z2, rfl, hT2, hz1, hz2⟩
          obtain ⟨u, hu, rfl⟩ := int_at hz1
          obtain ⟨v, hv, rfl⟩ := int_at hz2
          refine gPair hT2 ?_
          refine ifS (pvCmp pvVar pvVar) (fun hb => ?_) (fun hb => ?_)
          · rw [decide_eq_true_eq] at hb
            have e : isSched h ws = false := bad i way _ hway hld (by
              unfold rowOk
              rw [Bool.and_eq_false_iff]
              right
              rw [List.all_eq_false]
              exact ⟨(u, v), List.mem_of_getElem? (List.getElem?_zip_eq_some.mpr ⟨hu, hv⟩), by rw [decide_eq_false (by show ¬ u ≤ v; omega)]; exact Bool.false_ne_true⟩)
            have := k H4 (s12.trans (s3.trans s4))
            rw [e] at this
            exact this
          · rw [decide_eq_false_iff_not] at hb
            refine ⟨_, _, rfl, s3.trans s4, fun j' u' v' hj' e1 e2 => ?_⟩
            by_cases hjj : j' < j
            · exact hle j' u' v' hjj e1 e2
            · have e : j' = j := by omega
              subst e
              rw [hu] at e1; rw [hv] at e2
              cases e1; cases e2
              omega
        · rintro σ H3 ⟨v5, v6, rfl, s3, hle⟩
          refine ⟨_, _, _, _, _, rfl, s12.trans s3, fun j way' ld' hj e1 e2 => ?_⟩
          by_cases hji : j < i
          · exact hok j way' ld' hji e1 e2
          · have e : j = i := by omega
            subst e
            rw [hway] at e1; rw [hld] at e2
            cases e1; cases e2
            unfold rowOk
            rw [Bool.and_eq_true, decide_eq_true_eq, List.all_eq_true]
            refine ⟨c, fun z hz => ?_⟩
            obtain ⟨m, hm⟩ := List.getElem?_of_mem hz
            obtain ⟨q1, q2⟩ := List.getElem?_zip_eq_some.mp hm
            have hml := (List.getElem?_eq_some_iff.mp hm).1
            rw [List.length_zip] at hml
            exact decide_eq_true (hle m z.1 z.2 (by simp only [List.length_map]; omega) q1 q2)
      · have e : isSched h ws = false := bad i way _ hway hld (by unfold rowOk; rw [decide_eq_false c, Bool.false_and])
        have := k H2 s12
        rw [e] at this
        exact this
    · rintro σ H1 ⟨v2, v3, v4, v5, v6, rfl, s1, hok⟩
      have e : isSched h ws = true := by
        unfold isSched
        rw [List.all_eq_true]
        intro z hz
        obtain ⟨m, hm⟩ := List.getElem?_of_mem hz
        obtain ⟨q1, q2⟩ := List.getElem?_zip_eq_some.mp hm
        have hml := (List.getElem?_eq_some_iff.mp hm).1
        rw [List.length_zip, hg.len] at hml
        have := hg.same
        have := x.rl
        exact hok m z.1 z.2 (by simp only [List.length_map]; omega) q1 q2
      have := k H1 s1
      rw [e] at this
      exact this
end
end Hs
end
section
set_option Elab.async false
set_option linter.all false
set_option maxRecDepth 100000
set_option maxHeartbeats 4000000
namespace Hs
open PySem PySem.Spec
open PyProof.Rows hiding St
open L2
theorem sl_listK {X : Cx} {K : PySem.W.Frag} (hK : X.K = K) : SlR X (rSlL K) := by
  subst hK
  exact sl_list
def waysOf (h : HS) (l : List Int) : List (List Int) := (List.range h.needs.length).map fun c => (l.drop (c * h.bases.length)).take h.bases.length
def schedTotals (h : HS) (l : List Int) : List Int := (waysOf h l).foldl Lev.addLists h.bases
abbrev gCheck (h : HS) (l : List Int) : List Int := if (l.length : Int) = (h.needs.length : Int) * h.bases.length then (if isSched h (waysOf h l) = true then [0, 1, Vbemat.greatest (schedTotals h l), Vbemat.squares (schedTotals h l)] else [0, 0]) else [0, 0]
theorem ways_at {h : HS} {l : List Int} {c : Nat} (hc : c < h.needs.length) : (waysOf h l)[c]? = some ((l.drop (c * h.bases.length)).take h.bases.length) := by
  unfold waysOf
  rw [List.getElem?_map, List.getElem?_range hc]; rfl
theorem add_bound {a b : List Int} {m : Int} (ha : ∀ x ∈ a, 0 ≤ x ∧ x ≤ m) (hb : ∀ x ∈ b, 0 ≤ x ∧ x ≤ 1000000000) : ∀ x ∈ Lev.addLists a b, 0 ≤ x ∧ x ≤ m + 1000000000 := fun x hx => by
  unfold Lev.addLists at hx
  obtain ⟨z, hz, rfl⟩ := List.mem_map.mp hx
  have h1 := ha z.1 (List.of_mem_zip hz).1
  have h2 := hb z.2 (List.of_mem_zip hz).2
  show 0 ≤ z.1 + z.2 ∧ z.1 + z.2 ≤ m + 1000000000
  omega
section
variable {P : Program} {w : World} {K : PySem.W.Frag} {mg : Str → Option Value} {base : Heap} {C : Addr}
abbrev sCheck : Stmt := top 35
abbrev nCheck : List Str := ["house", "amounts", "count", "ways", "totals", "way", "load", "total", "amount"]
theorem scCheck : FnScope nCheck ["house", "amounts"] (defScope sCheck) := ⟨rfl, rfl, rfl, by decide +kernel, rfl, by decide +kernel, by decide +kernel⟩
theorem ok_check {f : Addr} {fd : FuncData} (F : Fun K "schedule_check" "schedule_check" sCheck f fd) (B : Bi mg) (T : HC K C) (C1 : Cal P w K mg base 1 "is_schedule" ["house", "ways"] (spSched C)) (C2 : Cal P w K mg base 1 "squares_of" ["totals"] spSqOf) :
    FnOk P w K mg base CX0 2 f fd ["house", "amounts"] (spQL C (fun _ l => ∀ x ∈ l, 0 ≤ x ∧ x ≤ 1000000000) gCheck) := by
  refine F.ok scCheck (fun vs H Q E h => ?_) (fun cdv A outer s H vs Q E hr h => ?_)
  · obtain ⟨a, d, h, p, l, rfl, _⟩ := h
    rfl
  · obtain ⟨a, d, h, p, l, rfl, hp, x, hg, hl, k⟩ := h
    have nd := scCheck.nd
    refine ⟨_, pss_cons (ps_set (i := 2) nd rfl (Or.inr rfl) (pe_callB call_len_seq rfl B.len bt_len (pa_cons (pe_fld (pv 0) rfl) pa_nil)))
      (pss_cons (ps_if (pt_cmp (pc_neI (pe_callB call_len_seq rfl B.len bt_len (pa_cons (pv 1) pa_nil)) (pe_op op_mul (pe_callB call_len_seq rfl B.len bt_len (pa_cons (pe_fld (pv 0) rfl) pa_nil)) (pv 2)))) (pss_one (ps_ret (pe_lst (pa_cons pe_int (pa_cons pe_int pa_nil))))) pss_nil)
      (pss_cons (ps_setLc (i := 3) (own := [("load", 6)]) rfl nd rfl rfl (sw_true rfl rfl rfl (by decide +kernel)) (pi_range1 rfl B.range (pa_cons (pe_callB call_len_seq rfl B.len bt_len (pa_cons (pe_fld (pv 0) rfl) pa_nil)) pa_nil))
        (blkOk_by (show blkC nCheck (defScope sCheck) _ _ = true by decide +kernel)) (fun _ _ _ _ _ => pg_name (i := 6) nd rfl (Or.inl rfl)) (fun _ _ _ _ _ => pts_nil)
        (fun _ _ _ _ _ => pe_slice (sl_listK (K := K) rfl) (pv 1) (po_some (pe_op op_mul (pv 6) (pv 2))) (po_some (pe_op op_add (pe_op op_mul (pv 6) (pv 2)) (pv 2)))))
      (pss_cons (ps_if (pt_not (pt_val (pcall C1 hr rfl (pa_cons (pv 0) (pa_cons (pv 3) pa_nil))))) (pss_one (ps_ret (pe_lst (pa_cons pe_int (pa_cons pe_int pa_nil))))) pss_nil)
      (pss_cons (ps_set (i := 4) nd rfl (Or.inl rfl) (pe_callTy call_list_of rfl B.list bt_list (pa_cons (pe_fld (pv 0) rfl) pa_nil)))
      (pss_cons (ps_for PassesOwn.never rfl (pi_list (pv 3)) (pg_name (i := 5) nd rfl (Or.inl rfl))
        (pss_one (ps_setLc (i := 4) (own := [("total", 7), ("amount", 8)]) rfl nd rfl rfl (sw_true rfl rfl rfl (by decide +kernel)) (pi_zip rfl B.zip (pa_cons (pv 4) (pa_cons (pv 5) pa_nil)))
          (blkOk_by (show blkC nCheck (defScope sCheck) _ _ = true by decide +kernel)) (fun _ _ _ _ _ => pg_pair (K := K) (i := 7) (j := 8) rfl rfl nd rfl rfl (Or.inl rfl) (Or.inl rfl))
          (fun _ _ _ _ _ => pts_nil) (fun _ _ _ _ _ => pe_op op_add (pv 7) (pv 8)))))
      (pss_one (ps_ret (pe_lst (pa_cons pe_int (pa_cons pe_int (pa_cons (pe_callBK (ck_maxd rfl) rfl B.max bt_max (pa_cons (pv 4) pa_nil) (pk_cons pe_int pk_nil)) (pa_cons (pcall C2 hr rfl (pa_cons (pv 4) pa_nil)) pa_nil)))))))))))), ?_⟩
    have hb8 := hg.b8
    have hn8 := hg.n8
    refine ⟨_, rfl, a, C, _, _, _, rfl, x.ins, T.cl, T.bases, hf_bases .., d.pb, _, rfl, .inl (SqL.of x.b), ?_⟩
    refine ⟨_, rfl, p, _, rfl, .inl (SqL.of hp), _, rfl, a, C, _, _, _, rfl, x.ins, T.cl, T.needs, hf_needs .., d.pn, _, rfl, .inl (SqL.of x.n), _, rfl, _, _, rfl, rfl, .inl ⟨by omega, by rw [List.length_map]; omega⟩, _, _, rfl, rfl, _, rfl, ?_⟩
    rw [List.length_map, List.length_map, List.length_map]
    refine ndec_if (c := (l.length : Int) = (h.needs.length : Int) * h.bases.length) (fun c => ?_) (fun c => ⟨(by show 2 ≤ sizeLine; decide), fun q hq => k q _ (Sm.one hq) (upd_same.trans (by rw [show gCheck h l = [0, 0] from if_neg c]; rfl))⟩)
    have clen : l.length = h.needs.length * h.bases.length := by
      have : ((l.length : Nat) : Int) = ((h.needs.length * h.bases.length : Nat) : Int) := by rw [c]; simp
      omega
    have hm : (((h.needs.map V.int).length : Nat) : Int).toNat = h.needs.length := by rw [List.length_map]; omega
    refine ⟨_, rfl, a, C, _, _, _, rfl, x.ins, T.cl, T.needs, hf_needs .., d.pn, _, rfl, .inl (SqL.of x.n), _, rfl, by omega, by rw [List.length_map]; omega, fun D hD => lcG hD wk_range (by rw [hm]; exact line_le (by omega)) (fun _ _ => trivial)
      (fun i acc H' => ∃ ps : List Addr, acc = ps.map V.ref ∧ Rows H' ps ((waysOf h l).take i) ∧ D ∉ ps ∧ ps.length = i) ⟨[], rfl, ⟨by simp, fun j _ _ e => by simp at e⟩, by simp, rfl⟩ ?_ ?_ ?_ ?_⟩
    · rintro i acc H1 H2 ⟨ps, rfl, ⟨e1, e2⟩, e3, e4⟩ kk
      refine ⟨ps, rfl, ⟨e1, fun j q row h1 h2 => kk _ _ (fun z => e3 (by rw [← z]; exact List.mem_of_getElem? h1)) (e2 j q row h1 h2)⟩, e3, e4⟩
    · rintro i acc H1 ⟨ps, rfl, _, _, e4⟩
      rw [List.length_map]; exact e4
    · rintro i y H1 acc Q' N hi s1 hy ⟨ps, rfl, ⟨e1, e2⟩, e3, e4⟩ hDl k1
      rw [hm] at hi
      rw [Int.zero_add] at hy
      subst hy
      have hle : i * h.bases.length + h.bases.length ≤ l.length := by
        rw [clen]
        have : (i + 1) * h.bases.length ≤ h.needs.length * h.bases.length := Nat.mul_le_mul_right _ hi
        rw [Nat.add_mul, Nat.one_mul] at this
        exact this
      have emul : (i : Int) * (h.bases.length : Int) = ((i * h.bases.length : Nat) : Int) := by simp
      have hcut : ∀ nn : Nat, nn = h.bases.length → cutV (l.map V.int) (some ((i : Int) * (nn : Int))) (some ((i : Int) * (nn : Int) + (nn : Int))) = ((l.drop (i * h.bases.length)).take h.bases.length).map V.int := fun nn en => by
        subst en
        rw [emul]
        exact cut_mid hle
      refine ⟨rfl, iteT (B := N H1) ?_⟩
      refine ⟨_, rfl, _, rfl, _, rfl, _, _, rfl, rfl, .inl ⟨by omega, by omega⟩, _, rfl, _, rfl, _, rfl, _, _, rfl, rfl, .inl ⟨by omega, by omega⟩, _, rfl, _, _, rfl, rfl, _, rfl, p, _, rfl, SqL.of (s1 _ _ hp), fun q hq => ?_⟩
      have hqn : q ≠ D := fun z => by rw [z, hDl] at hq; cases hq
      refine k1 _ _ (Sm.one hq) ⟨ps ++ [q], by rw [List.map_append]; rfl, ⟨?_, fun j q2 row h1 h2 => ?_⟩, ?_, by rw [List.length_append, e4]; rfl⟩
      · rw [List.length_append, e1, take_snoc (ways_at hi), List.length_append]; rfl
      · rw [take_snoc (ways_at hi)] at h2
        by_cases hj : j < ps.length
        · rw [List.getElem?_append_left hj] at h1
          rw [List.getElem?_append_left (by rw [← e1]; exact hj)] at h2
          exact Sm.one hq _ _ (e2 j q2 row h1 h2)
        · have ej : j = ps.length := by
            have := (List.getElem?_eq_some_iff.mp h1).1
            rw [List.length_append] at this
            have : j < ps.length + 1 := this
            omega
          subst ej
          rw [List.getElem?_append_right (Nat.le_refl _), Nat.sub_self] at h1
          rw [e1, List.getElem?_append_right (Nat.le_refl _), Nat.sub_self] at h2
          cases h1
          cases h2
          refine upd_same.trans ?_
          rw [hcut _ rfl]
      · intro z
        rcases List.mem_append.mp z with z | z
        · exact e3 z
        · exact hqn (List.mem_singleton.mp z).symm
    · rintro H1 acc s1 hDl ⟨ps, rfl, hrows, e3, e4⟩
      rw [hm] at hrows e4
      have wl : (waysOf h l).length = h.needs.length := by unfold waysOf; rw [List.length_map, List.length_range]
      rw [List.take_of_length_le (by rw [wl]; exact Nat.le_refl _)] at hrows
      have x1 := x.same s1
      refine ⟨_, rfl, _, rfl, a, d, h, D, ps, waysOf h l, rfl, x1, hg, hDl, hrows, wl, fun H2 s2 => ⟨_, rfl, ?_⟩⟩
      have s12 := s1.trans s2
      cases hsch : isSched h (waysOf h l) with
      | false =>
        refine iteT ?_
        refine ⟨(by show 2 ≤ sizeLine; decide), fun q hq => k q _ (Sm.add s12 hq) (upd_same.trans ?_)⟩
        rw [show gCheck h l = [0, 0] by show (if _ then _ else _) = _; rw [if_pos c, if_neg (by rw [hsch]; exact Bool.false_ne_true)]]; rfl
      | true =>
        refine iteF ?_
        have x2 := x.same s12
        have hDl2 := s2 _ _ hDl
        refine ⟨_, rfl, a, C, _, _, _, rfl, x2.ins, T.cl, T.bases, hf_bases .., d.pb, _, rfl, .inl (SqL.of x2.b), fun tl htl => ?_⟩
        have s3 : Same H2 (upd H2 tl (.lst (h.bases.map V.int))) := Sm.one htl
        refine ⟨_, rfl, D, rfl, ⟨_, SqL.of (s3 _ _ hDl2)⟩, forW wk_list (fun i σ H' => ∃ (tp : Addr) (ts : List Int) (v5 : Option V), σ = [some (.ref a), some (.ref p), some (.int (h.bases.length : Nat)), some (.ref D), some (.ref tp), v5, none, none, none] ∧ Same H2 H' ∧ LI H' tp ts ∧
            ts = ((waysOf h l).take i).foldl Lev.addLists h.bases ∧ ts.length ≤ 8 ∧ ∀ x ∈ ts, 0 ≤ x ∧ x ≤ 1000000000 * ((i : Int) + 1))
          ⟨tl, h.bases, none, rfl, s3, upd_same, rfl, hb8, fun y hy => by have := hg.good.b0 y hy; omega⟩ (fun _ _ H' _ ⟨_, _, _, _, s, _⟩ => SqL.of (s _ _ hDl2)) ?_ ?_⟩
        · rintro i y σ H3 H4 hi ⟨tq, ts, v5, rfl, s4, htq, ets, htl8, hbd⟩ s5 hy
          obtain ⟨wp, hwp, rfl⟩ := ref_at hy
          have hiw : i < (waysOf h l).length := by rw [← hrows.1]; exact (List.getElem?_eq_some_iff.mp hwp).1
          have hin : i < h.needs.length := by rw [← wl]; exact hiw
          have hway := ways_at (l := l) hin
          have hw := hrows.2 i wp _ hwp hway
          have hw4 : LI H4 wp ((l.drop (i * h.bases.length)).take h.bases.length) := s5 _ _ (s4 _ _ (s2 _ _ hw))
          refine ⟨_, rfl, _, rfl, tq, wp, _, _, rfl, SqL.of (s5 _ _ htq), SqL.of hw4, fun D2 hD2 => zipLc hD2 (s5 _ _ htq) hw4 (by omega) (fun x y => x + y) (fun _ _ => rfl) (fun x y H' s' => pvI pvVar pvVar) (fun H6 s6 h6 => ?_)⟩
          refine ⟨D2, _, _, rfl, s4.trans (s5.trans s6), h6, ?_, ?_, ?_⟩
          · rw [take_snoc hway, List.foldl_append, ← ets]; rfl
          · rw [List.length_map, List.length_zip]; omega
          · intro z hz
            have := add_bound hbd (fun u hu => hl u (List.mem_of_mem_drop (List.mem_of_mem_take hu))) z hz
            have e : ((i + 1 : Nat) : Int) = (i : Int) + 1 := by omega
            rw [e]
            omega
        · rintro σ H3 ⟨tq, ts, v5, rfl, s4, htq, ets, htl8, hbd⟩
          rw [List.length_map, e4] at ets hbd
          rw [List.take_of_length_le (by rw [wl]; exact Nat.le_refl _)] at ets
          have ets : ts = schedTotals h l := ets
          subst ets
          refine ⟨_, rfl, tq, _, _, rfl, rfl, SqL.of htq, fun m h1 h2 => ?_⟩
          rw [greatest_of (fun y hy => (hbd y hy).1) h1 h2]
          refine ⟨_, rfl, tq, _, rfl, htq, htl8, fun y hy => by have := hbd y hy; omega, fun H4 s5 => ?_⟩
          refine ⟨(by show 4 ≤ sizeLine; decide), fun q hq => k q _ (Sm.add (s12.trans (s4.trans s5)) hq) (upd_same.trans ?_)⟩
          rw [show gCheck h l = [0, 1, Vbemat.greatest (schedTotals h l), Vbemat.squares (schedTotals h l)] by show (if _ then _ else _) = _; rw [if_pos c, if_pos hsch]]; rfl
end
end Hs
end
section
set_option Elab.async false
set_option linter.all false
set_option maxRecDepth 100000
set_option maxHeartbeats 4000000
namespace Hs
open PySem PySem.Spec
open PyProof.Rows hiding St
open L2
def KT (K : PySem.W.Frag) (a : Addr) (xs : List V) : Prop := ∃ (o : Obj) (its : Array Value) (n : Nat), K.lookup a = some o ∧ o.cls = .type "tuple" ∧ o.data = .seq its n ∧ its.size ≤ sizeLine ∧ Vals xs its.toList
theorem KT.sq {K : PySem.W.Frag} {a : Addr} {xs : List V} (h : KT K a xs) (H : Hp) : SqT K H a xs := .inr h
def ranges : List (List (Int × Int)) := [[(1, 8)], [(0, 1000000000)], [(1, 8), (0, 1000000000)], [(1, 8), (1, 8), (0, 1000000000)], [(1, 8), (0, 1000000000)], [], [], [], [], [], [], [(1, 8)], [], [], [], [], [(1, 8), (1, 8)], [(0, 10000000000)], [(1, 8)], [(1, 8)], []]
def rowsOf (q : Nat) : Option (Nat × Int × Int) := if q = 1 then some (8, 0, 1000000000) else if q = 6 then some (8, 0, 1000000000) else if q = 13 then some (8, 1, 8) else if q = 15 then some (64, 0, 1000000000) else none
def Pairs1 (K : PySem.W.Frag) (ps : List Addr) (rg : List (Int × Int)) : Prop := ps.length = rg.length ∧ ∀ (j : Nat) (p : Addr) (z : Int × Int), ps[j]? = some p → rg[j]? = some z → KT K p [.int z.1, .int z.2]
structure NumT (K : PySem.W.Frag) (mg : Str → Option Value) : Prop where
  ex : ∃ (tn : Addr) (as : List Addr), mg "NUMBERS" = some (.ref tn) ∧ KT K tn (as.map V.ref) ∧ as.length = 21 ∧ ∀ (q : Nat) (a : Addr), as[q]? = some a → ∃ ps : List Addr, KT K a (ps.map V.ref) ∧ Pairs1 K ps ((ranges[q]?).getD [])
structure RowT (K : PySem.W.Frag) (mg : Str → Option Value) : Prop where
  ex : ∃ (d b1 b6 b13 b15 : Addr) (t1 t6 t13 t15 : Tok) (n : Nat), mg "ROWS" = some (.ref d) ∧ (d == sysModules) = false ∧
    K.lookup d = some ⟨.type "dict", none, .dict #[⟨1, .int 1 t1, .ref b1⟩, ⟨6, .int 6 t6, .ref b6⟩, ⟨13, .int 13 t13, .ref b13⟩, ⟨15, .int 15 t15, .ref b15⟩] n, #[]⟩ ∧
    KT K b1 [.int 8, .int 0, .int 1000000000] ∧ KT K b6 [.int 8, .int 0, .int 1000000000] ∧ KT K b13 [.int 8, .int 1, .int 8] ∧ KT K b15 [.int 64, .int 0, .int 1000000000]
def KRow (K : PySem.W.Frag) (d : Addr) (at_ : Nat → Option Addr) : Prop := ∀ (P : Program) (w : World) (h : Heap), K.In h → ∃ f : Int → Option Value, h.MapOf (intKind P w) d f ∧ ∀ q : Nat, q < 21 → f (q : Int) = (at_ q).map Value.ref
theorem RowT.get {K : PySem.W.Frag} {mg : Str → Option Value} (R : RowT K mg) : ∃ (d : Addr) (at_ : Nat → Option Addr), mg "ROWS" = some (.ref d) ∧ (d == sysModules) = false ∧ KRow K d at_ ∧ (∀ q : Nat, q < 21 → (at_ q).isSome = (rowsOf q).isSome) ∧
    ∀ (q : Nat) (b : Addr) (z : Nat × Int × Int), at_ q = some b → rowsOf q = some z → KT K b [.int z.1, .int z.2.1, .int z.2.2] := by
  obtain ⟨d, b1, b6, b13, b15, t1, t6, t13, t15, n, h1, h2, h3, k1, k6, k13, k15⟩ := R.ex
  refine ⟨d, fun q => if q = 1 then some b1 else if q = 6 then some b6 else if q = 13 then some b13 else if q = 15 then some b15 else none, h1, h2, fun P w h X => ?_, fun q hq => ?_, fun q b z hb hz => ?_⟩
  · have dd : h.DictOf (intKind P w) d [(1, .ref b1), (6, .ref b6), (13, .ref b13), (15, .ref b15)] := by
      refine ⟨_, _, _, X d _ h3, ⟨rfl, rfl, rfl⟩, rfl, fun e he => ?_, .cons (by rfl) rfl (.cons (by rfl) rfl (.cons (by rfl) rfl (.cons (by rfl) rfl .nil))), (by show ([1, 6, 13, 15] : List Int).Nodup; decide)⟩
      have he' : e = ⟨1, .int 1 t1, .ref b1⟩ ∨ e = ⟨6, .int 6 t6, .ref b6⟩ ∨ e = ⟨13, .int 13 t13, .ref b13⟩ ∨ e = ⟨15, .int 15 t15, .ref b15⟩ := by simpa using he
      rcases he' with z | z | z | z
      · subst z; exact ⟨1, rfl, (by show (1 : Int) = hashInt 1; decide +kernel)⟩
      · subst z; exact ⟨6, rfl, (by show (6 : Int) = hashInt 6; decide +kernel)⟩
      · subst z; exact ⟨13, rfl, (by show (13 : Int) = hashInt 13; decide +kernel)⟩
      · subst z; exact ⟨15, rfl, (by show (15 : Int) = hashInt 15; decide +kernel)⟩
    refine ⟨_, dd.mapOf, fun q hq => ?_⟩
    have all : q = 0 ∨ q = 1 ∨ q = 2 ∨ q = 3 ∨ q = 4 ∨ q = 5 ∨ q = 6 ∨ q = 7 ∨ q = 8 ∨ q = 9 ∨ q = 10 ∨ q = 11 ∨ q = 12 ∨ q = 13 ∨ q = 14 ∨ q = 15 ∨ q = 16 ∨ q = 17 ∨ q = 18 ∨ q = 19 ∨ q = 20 := by omega
    rcases all with z | z | z | z | z | z | z | z | z | z | z | z | z | z | z | z | z | z | z | z | z <;> subst z <;> rfl
  · have all : q = 0 ∨ q = 1 ∨ q = 2 ∨ q = 3 ∨ q = 4 ∨ q = 5 ∨ q = 6 ∨ q = 7 ∨ q = 8 ∨ q = 9 ∨ q = 10 ∨ q = 11 ∨ q = 12 ∨ q = 13 ∨ q = 14 ∨ q = 15 ∨ q = 16 ∨ q = 17 ∨ q = 18 ∨ q = 19 ∨ q = 20 := by omega
    rcases all with z | z | z | z | z | z | z | z | z | z | z | z | z | z | z | z | z | z | z | z | z <;> subst z <;> rfl
  · unfold rowsOf at hz
    by_cases c1 : q = 1
    · simp only [c1, if_true] at hb hz; cases hb; cases hz; exact k1
    · by_cases c6 : q = 6
      · simp only [c6] at hb hz; cases hb; cases hz; exact k6
      · by_cases c13 : q = 13
        · simp only [c13] at hb hz; cases hb; cases hz; exact k13
        · by_cases c15 : q = 15
          · simp only [c15] at hb hz; cases hb; cases hz; exact k15
          · simp only [c1, c6, c13, c15, if_false] at hb; cases hb
section
variable {X : Cx} {d : Addr} {at_ : Nat → Option Addr}
theorem op_notInK (hd : (d == sysModules) = false) (k : KRow X.K d at_) : OpR X (compareOp .NotIn) (fun x y H Q => ∃ q : Nat, q < 21 ∧ x = .int q ∧ y = .ref d ∧ Q (.bl (!(at_ q).isSome)) H) := by
  intro pins s σ H x y v u Q I rx ry h
  obtain ⟨q, hq, rfl, rfl, z⟩ := h
  obtain ⟨t, rfl⟩ := rx
  cases ry
  obtain ⟨f, hm, hf⟩ := k X.prog X.w s.heap I.kIn
  refine wpAny_notIn_of (k := (q : Int)) (by simp [intKind, Value.isInt]) hd hm ⟨.bl (!(at_ q).isSome), H, I.tok _, ?_, z⟩
  show Value.bool (!(f (q : Int)).isSome) = Value.bool (!(at_ q).isSome)
  rw [hf q hq, Option.isSome_map]
theorem ix_rows (k : KRow X.K d at_) : IxR X (fun x y H Q => ∃ (q : Nat) (b : Addr), q < 21 ∧ x = .ref d ∧ y = .int q ∧ at_ q = some b ∧ Q (.ref b) H) := by
  intro value slice pins s σ H x y v u Q I rx ry h hs
  obtain ⟨q, b, hq, rfl, rfl, hb, z⟩ := h
  cases rx
  obtain ⟨t, rfl⟩ := ry
  obtain ⟨f, hm, hf⟩ := k X.prog X.w s.heap I.kIn
  have e : f (q : Int) = some (.ref b) := by rw [hf q hq, hb]; rfl
  exact tail_any hm.typeIs PySem.F.slot_dict_getitem.lookup (wpAny_getItem_of (k := (q : Int)) (by simp [intKind, Value.isInt]) hm e ⟨.ref b, H, I.tok _, rfl, z⟩) hs
end
def numsIn (xs : List Int) (rg : List (Int × Int)) : Bool := (xs.zip rg).all fun z => decide (z.2.1 ≤ z.1) && decide (z.1 ≤ z.2.2)
def rowIn (row : List Int) (z : Nat × Int × Int) : Bool := decide (row.length ≤ z.1) && row.all fun v => decide (z.2.1 ≤ v) && decide (v ≤ z.2.2)
section
variable {P : Program} {w : World} {K : PySem.W.Frag} {mg : Str → Option Value} {base : Heap} {C : Addr}
theorem sqT_pair {K : PySem.W.Frag} {H : Hp} {a : Addr} {x y : V} (h : KT K a [x, y]) : SqT K H a [x, y] := .inr h
abbrev sNumIn : Stmt := top 5
abbrev nNumIn : List Str := ["numbers", "ranges", "value", "bounds"]
theorem scNumIn : FnScope nNumIn ["numbers", "ranges"] (defScope sNumIn) := ⟨rfl, rfl, rfl, by decide +kernel, rfl, by decide +kernel, by decide +kernel⟩
def spNumIn (K : PySem.W.Frag) : Sp := fun vs H Q _ => ∃ (p r : Addr) (xs : List Int) (ps : List Addr) (rg : List (Int × Int)), vs = [.ref p, .ref r] ∧ LI H p xs ∧ KT K r (ps.map V.ref) ∧ Pairs1 K ps rg ∧ ∀ H' : Hp, Same H H' → Q (.bl (numsIn xs rg)) H'
theorem pvIxT {K : PySem.W.Frag} {ta tb : TE} {σ : St} {H : Hp} {p : Addr} {xs : List V} {i : Int} {v : V} (h1 : PvE ta σ H (.ref p)) (h2 : PvE tb σ H (.int i)) (hp : SqT K H p xs) (hi : atI xs i = some v) : PvE (tOp (rIxT K) ta tb) σ H v :=
  fun _ q => h1 _ (h2 _ ⟨p, xs, i, v, rfl, rfl, hp, hi, q⟩)
theorem ok_numIn {f : Addr} {fd : FuncData} (F : Fun K "numbers_within" "numbers_within" sNumIn f fd) (B : Bi mg) : FnOk P w K mg base CX0 1 f fd ["numbers", "ranges"] (spNumIn K) := by
  refine F.ok scNumIn (fun vs H Q E h => ?_) (fun cdv A outer s H vs Q E hr h => ?_)
  · obtain ⟨p, r, xs, ps, rg, rfl, _⟩ := h
    rfl
  · obtain ⟨p, r, xs, ps, rg, rfl, hp, hr2, ⟨hpl, hps⟩, k⟩ := h
    have nd := scNumIn.nd
    refine ⟨_, pss_cons (ps_for PassesOwn.never rfl (pi_zipT rfl B.zip (pa_cons (pv 0) (pa_cons (pv 1) pa_nil))) (pg_pair (K := K) (i := 2) (j := 3) rfl rfl nd rfl rfl (Or.inl rfl) (Or.inl rfl))
        (pss_one (ps_if (PW.pt (pw_or (pt_cmp (pc_lt (pv 2) (pe_ix ix_tup (pv 3) pe_int (fun _ _ => rfl)))) (pw_or1 (pt_cmp (pc_gt (pv 2) (pe_ix ix_tup (pv 3) pe_int (fun _ _ => rfl))))))) (pss_one (ps_ret pe_bl)) pss_nil)))
      (pss_one (ps_ret pe_bl)), ?_⟩
    refine ⟨_, rfl, _, rfl, p, r, _, _, rfl, SqL.of hp, hr2.sq H, forW wk_zipT (fun i σ H' => ∃ v2 v3 : Option V, σ = [some (.ref p), some (.ref r), v2, v3] ∧ Same H H' ∧ ∀ (j : Nat) (x : Int) (z : Int × Int), j < i → xs[j]? = some x → rg[j]? = some z → (decide (z.1 ≤ x) && decide (x ≤ z.2)) = true)
      ⟨none, none, rfl, Same.refl H, fun j _ _ hj => absurd hj (Nat.not_lt_zero j)⟩ (fun _ _ H' _ ⟨_, _, _, s, _⟩ => ⟨SqL.of (s _ _ hp), hr2.sq H'⟩) ?_ ?_⟩
    · rintro i y σ H1 H2 hi ⟨v2, v3, rfl, s1, hok⟩ s2 ⟨T1, y1, y2, rfl, hT, hy1, hy2⟩
      obtain ⟨x, hx, rfl⟩ := int_at hy1
      obtain ⟨q, hq, rfl⟩ := ref_at hy2
      have hir : i < rg.length := by rw [← hpl]; exact (List.getElem?_eq_some_iff.mp hq).1
      obtain ⟨z, hz⟩ : ∃ z, rg[i]? = some z := ⟨_, List.getElem?_eq_getElem hir⟩
      have kt : SqT K H2 q [.int z.1, .int z.2] := (hps i q z hq hz).sq H2
      refine gPair hT ?_
      refine ifS (pvOr (pvCmp pvVar (pvIxT pvVar pvC kt (atI_nat (j := 0) rfl))) (fun _ => pvCmp pvVar (pvIxT pvVar pvC kt (atI_nat (j := 1) rfl)))) (fun hb => ?_) (fun hb => ?_)
      · have e : numsIn xs rg = false := by
          unfold numsIn
          rw [List.all_eq_false]
          refine ⟨(x, z), List.mem_of_getElem? (List.getElem?_zip_eq_some.mpr ⟨hx, hz⟩), ?_⟩
          rw [Bool.or_eq_true, decide_eq_true_eq, decide_eq_true_eq] at hb
          intro c
          rw [Bool.and_eq_true, decide_eq_true_eq, decide_eq_true_eq] at c
          have c1 : z.1 ≤ x := c.1
          have c2 : x ≤ z.2 := c.2
          omega
        have := k H2 (s1.trans s2)
        rw [e] at this
        exact this
      · rw [Bool.or_eq_false_iff, decide_eq_false_iff_not, decide_eq_false_iff_not] at hb
        refine ⟨_, _, rfl, s1.trans s2, fun j x' z' hj e1 e2 => ?_⟩
        by_cases hji : j < i
        · exact hok j x' z' hji e1 e2
        · have e : j = i := by omega
          subst e
          rw [hx] at e1; rw [hz] at e2
          cases e1; cases e2
          rw [Bool.and_eq_true, decide_eq_true_eq, decide_eq_true_eq]
          omega
    · rintro σ H1 ⟨v2, v3, rfl, s1, hok⟩
      have e : numsIn xs rg = true := by
        unfold numsIn
        rw [List.all_eq_true]
        intro z hz
        obtain ⟨m, hm⟩ := List.getElem?_of_mem hz
        obtain ⟨q1, q2⟩ := List.getElem?_zip_eq_some.mp hm
        have hml := (List.getElem?_eq_some_iff.mp hm).1
        rw [List.length_zip] at hml
        exact hok m z.1 z.2 (by simp only [List.length_map]; omega) q1 q2
      have := k H1 s1
      rw [e] at this
      exact this
abbrev sRowIn : Stmt := top 6
abbrev nRowIn : List Str := ["row", "most", "low", "high", "value"]
theorem scRowIn : FnScope nRowIn ["row", "most", "low", "high"] (defScope sRowIn) := ⟨rfl, rfl, rfl, by decide +kernel, rfl, by decide +kernel, by decide +kernel⟩
def spRowIn : Sp := fun vs H Q _ => ∃ (p : Addr) (row : List Int) (z : Nat × Int × Int), vs = [.ref p, .int z.1, .int z.2.1, .int z.2.2] ∧ LI H p row ∧ ∀ H' : Hp, Same H H' → Q (.bl (rowIn row z)) H'
theorem ok_rowIn {f : Addr} {fd : FuncData} (F : Fun K "row_within" "row_within" sRowIn f fd) (B : Bi mg) : FnOk P w K mg base CX0 1 f fd ["row", "most", "low", "high"] spRowIn := by
  refine F.ok scRowIn (fun vs H Q E h => ?_) (fun cdv A outer s H vs Q E hr h => ?_)
  · obtain ⟨p, row, z, rfl, _⟩ := h
    rfl
  · obtain ⟨p, row, ⟨m, lo, hi⟩, rfl, hp, k⟩ := h
    have nd := scRowIn.nd
    refine ⟨_, pss_cons (ps_if (pt_cmp (pc_gt (pe_callB call_len_seq rfl B.len bt_len (pa_cons (pv 0) pa_nil)) (pv 1))) (pss_one (ps_ret pe_bl)) pss_nil)
      (pss_cons (ps_for PassesOwn.never rfl (pi_list (pv 0)) (pg_name (i := 4) nd rfl (Or.inl rfl))
        (pss_one (ps_if (PW.pt (pw_or (pt_cmp (pc_lt (pv 4) (pv 2))) (pw_or1 (pt_cmp (pc_gt (pv 4) (pv 3)))))) (pss_one (ps_ret pe_bl)) pss_nil)))
      (pss_one (ps_ret pe_bl))), ?_⟩
    refine ifS (pvCmp (pvLen pvVar hp) pvVar) (fun hb => ?_) (fun hb => ?_)
    · rw [decide_eq_true_eq, List.length_map] at hb
      have e : rowIn row (m, lo, hi) = false := by
        unfold rowIn
        rw [decide_eq_false (by show ¬ row.length ≤ m; omega), Bool.false_and]
      have := k H (Same.refl H)
      rw [e] at this
      exact this
    · rw [decide_eq_false_iff_not, List.length_map] at hb
      have hlen : decide (row.length ≤ m) = true := decide_eq_true (by omega)
      refine ⟨_, rfl, p, rfl, ⟨_, SqL.of hp⟩, forW wk_list (fun i σ H' => ∃ v4 : Option V, σ = [some (.ref p), some (.int m), some (.int lo), some (.int hi), v4] ∧ Same H H' ∧ ∀ (j : Nat) (x : Int), j < i → row[j]? = some x → (decide (lo ≤ x) && decide (x ≤ hi)) = true)
        ⟨none, rfl, Same.refl H, fun j _ hj => absurd hj (Nat.not_lt_zero j)⟩ (fun _ _ H' _ ⟨_, _, s, _⟩ => SqL.of (s _ _ hp)) ?_ ?_⟩
      · rintro i y σ H1 H2 hi' ⟨v4, rfl, s1, hok⟩ s2 hy
        obtain ⟨x, hx, rfl⟩ := int_at hy
        refine ifS (pvOr (pvCmp pvVar pvVar) (fun _ => pvCmp pvVar pvVar)) (fun hc => ?_) (fun hc => ?_)
        · have e : rowIn row (m, lo, hi) = false := by
            unfold rowIn
            rw [Bool.and_eq_false_iff]
            right
            rw [List.all_eq_false]
            refine ⟨x, List.mem_of_getElem? hx, fun c => ?_⟩
            rw [Bool.and_eq_true, decide_eq_true_eq, decide_eq_true_eq] at c
            rw [Bool.or_eq_true, decide_eq_true_eq, decide_eq_true_eq] at hc
            have c1 : lo ≤ x := c.1
            have c2 : x ≤ hi := c.2
            omega
          have := k H2 (s1.trans s2)
          rw [e] at this
          exact this
        · rw [Bool.or_eq_false_iff, decide_eq_false_iff_not, decide_eq_false_iff_not] at hc
          refine ⟨_, rfl, s1.trans s2, fun j x' hj e1 => ?_⟩
          by_cases hji : j < i
          · exact hok j x' hji e1
          · have e : j = i := by omega
            subst e
            rw [hx] at e1
            cases e1
            rw [Bool.and_eq_true, decide_eq_true_eq, decide_eq_true_eq]
            omega
      · rintro σ H1 ⟨v4, rfl, s1, hok⟩
        have e : rowIn row (m, lo, hi) = true := by
          unfold rowIn
          rw [hlen, Bool.true_and, List.all_eq_true]
          intro x hx
          obtain ⟨j, hj⟩ := List.getElem?_of_mem hx
          exact hok j x (by rw [List.length_map]; exact (List.getElem?_eq_some_iff.mp hj).1) hj
        have := k H1 s1
        rw [e] at this
        exact this
end
end Hs
end
section
set_option Elab.async false
set_option linter.all false
set_option maxRecDepth 100000
set_option maxHeartbeats 4000000
namespace Hs
open PySem PySem.Spec
open PyProof.Rows hiding St
open L2
def cfs (n : Int) (pn pr : Addr) (e : Int) : List (Str × V) := [("number", .int n), ("numbers", .ref pn), ("row", .ref pr), ("end", .int e)]
theorem cf_number (n : Int) (pn pr : Addr) (e : Int) : (cfs n pn pr e).lookup ("number" : Str) = some (V.int n) := rfl
theorem cf_numbers (n : Int) (pn pr : Addr) (e : Int) : (cfs n pn pr e).lookup ("numbers" : Str) = some (V.ref pn) := rfl
theorem cf_row (n : Int) (pn pr : Addr) (e : Int) : (cfs n pn pr e).lookup ("row" : Str) = some (V.ref pr) := rfl
theorem cf_end (n : Int) (pn pr : Addr) (e : Int) : (cfs n pn pr e).lookup ("end" : Str) = some (V.int e) := rfl
structure CCl (K : PySem.W.Frag) (C : Addr) : Prop where
  cl : Cls K C
  number : NoAttr K C "number"
  numbers : NoAttr K C "numbers"
  row : NoAttr K C "row"
  end_ : NoAttr K C "end"
def CallAt (CC : Addr) (H : Hp) (a : Addr) (n : Int) (pn pr : Addr) (e : Int) : Prop := ∃ dx, H a = some (.ins CC dx (cfs n pn pr e))
structure Mkr (P : Program) (w : World) (K : PySem.W.Frag) (mg : Str → Option Value) (base : Heap) (k : Nat) (x : Str) (C : Addr) (ps : List Str) (sp : Sp) : Prop where
  ex : ∃ (f : Addr) (fd : FuncData), mg x = some (.ref C) ∧ Mk K C f ∧ Binds K fd ps [] ∧ FnOk P w K mg base CX0 k f fd ps sp
theorem pmake {X : Cx} {k : Nat} {x : Str} {C : Addr} {ps : List Str} {sp : Sp} {p pos : Pos} {e : Expr} {es : List Expr} {t : TA} (M : Mkr X.prog X.w X.K X.mg X.base k x C ps sp) (hr : Room (k + 1) X.A) (hg : Gl X x) (ha : PA X (e :: es) t)
    (hdb : (x == ("__debug__" : Str)) = false := by decide) (he : starEach (e :: es) X.env = (false, eval e X.env) :: starEach es X.env := by rfl) (hpl : (backTo pos (starEach es X.env)).any (·.1) = false := by rfl) :
    PE X (.Call (.Name x p) (e :: es) [] pos) (tMake C sp [] E0 t) := by
  obtain ⟨f, fd, h1, h2, h3, h4⟩ := M.ex
  exact pe_make h2 h4 hr hg h1 h3 .nil pass0 ha hdb he hpl
theorem pmake0 {X : Cx} {k : Nat} {x : Str} {C : Addr} {ps : List Str} {sp : Sp} {p pos : Pos} (M : Mkr X.prog X.w X.K X.mg X.base k x C ps sp) (hr : Room (k + 1) X.A) (hg : Gl X x)
    (hdb : (x == ("__debug__" : Str)) = false := by decide) : PE X (.Call (.Name x p) [] [] pos) (tMake C sp [] E0 tNil) := by
  obtain ⟨f, fd, h1, h2, h3, h4⟩ := M.ex
  exact pe_make0 h2 h4 hr hg h1 h3 .nil pass0 hdb
theorem shape_q {p : Int} {k r : Nat} (h : PyVbemat.shape p = some (k, r)) : ∃ q : Nat, q < 21 ∧ p = (q : Int) := by
  unfold PyVbemat.shape at h
  by_cases c : 0 ≤ p ∧ p ≤ 20
  · exact ⟨p.toNat, by omega, by omega⟩
  · exfalso
    repeat rw [if_neg (by omega)] at h
    cases h
theorem shape_at : ∀ q : Nat, q < 21 → PyVbemat.shape (q : Int) = some (((ranges[q]?).getD []).length, if (rowsOf q).isSome = true then 1 else 0) := by decide
def CallHead (l : List Int) (q : Nat) (nums row t : List Int) : Prop := q < 21 ∧ nums.length = ((ranges[q]?).getD []).length ∧
  (((rowsOf q).isSome = false ∧ row = [] ∧ l = (q : Int) :: (nums ++ t)) ∨ ((rowsOf q).isSome = true ∧ l = (q : Int) :: (nums ++ ((row.length : Int) :: (row ++ t)))))
theorem call_head {l t : List Int} {c : List (List Int)} (h : PyFlat.call PyVbemat.shape l = some (c, t)) : ∃ (q : Nat) (nums row : List Int), CallHead l q nums row t ∧ c = (if (rowsOf q).isSome = true then [(q : Int) :: nums, row] else [(q : Int) :: nums]) := by
  cases l with
  | nil => cases h
  | cons p r =>
    unfold PyFlat.call at h
    cases hs : PyVbemat.shape p with
    | none => simp only [hs] at h; cases h
    | some z =>
      obtain ⟨k, m⟩ := z
      obtain ⟨q, hq, rfl⟩ := shape_q hs
      rw [shape_at q hq] at hs
      simp only [shape_at q hq] at h
      generalize hk : ((ranges[q]?).getD []).length = kk at h
      by_cases hl : r.length < kk
      · rw [if_pos hl] at h; cases h
      · rw [if_neg hl] at h
        have hsplit : r = r.take kk ++ r.drop kk := (List.take_append_drop kk r).symm
        have hlen : (r.take kk).length = kk := by rw [List.length_take]; omega
        cases hb : (rowsOf q).isSome with
        | false =>
          rw [hb] at h
          simp only [Bool.false_eq_true, if_false, PyFlat.rows] at h
          cases h
          exact ⟨q, r.take kk, [], ⟨hq, by rw [hlen, hk], .inl ⟨hb, rfl, by rw [← hsplit]⟩⟩, by rw [hb, if_neg Bool.false_ne_true]⟩
        | true =>
          rw [hb] at h
          simp only [if_true, PyFlat.rows] at h
          cases hd : r.drop kk with
          | nil => rw [hd] at h; simp [PyFlat.row] at h
          | cons n u =>
            rw [hd] at h
            simp only [PyFlat.row] at h
            by_cases hn : 0 ≤ n ∧ n.toNat ≤ u.length
            · rw [if_pos hn] at h
              simp only at h
              cases h
              refine ⟨q, r.take kk, u.take n.toNat, ⟨hq, by rw [hlen, hk], .inr ⟨hb, ?_⟩⟩, by rw [hb, if_pos rfl]⟩
              have e1 : (u.take n.toNat).length = n.toNat := by rw [List.length_take]; omega
              rw [e1, List.take_append_drop, Int.toNat_of_nonneg hn.1, ← hd, ← hsplit]
            · rw [if_neg hn] at h
              cases h
def callIn (q : Nat) (nums row : List Int) : Bool := numsIn nums ((ranges[q]?).getD []) && (match rowsOf q with | none => true | some z => rowIn row z)
section
variable {P : Program} {w : World} {K : PySem.W.Frag} {mg : Str → Option Value} {base : Heap} {CC : Addr}
abbrev sCallInit : Stmt := inClass (top 3) 0
abbrev nCallInit : List Str := ["self", "number", "numbers", "row", "end"]
theorem scCallInit : FnScope nCallInit ["self", "number", "numbers", "row", "end"] (defScope sCallInit) := ⟨rfl, rfl, rfl, by decide +kernel, rfl, by decide +kernel, by decide +kernel⟩
def spCallInit (CC : Addr) : Sp := fun vs H Q _ => ∃ (p dx pn pr : Addr) (n e : Int), vs = [.ref p, .int n, .ref pn, .ref pr, .int e] ∧ H p = some (.ins CC dx []) ∧ ∀ H' : Hp, H' p = some (.ins CC dx (cfs n pn pr e)) → (∀ b o, H b = some o → b ≠ p → H' b = some o) → Q .non H'
theorem ok_callInit {f : Addr} {fd : FuncData} (F : Fun K "__init__" "Call.__init__" sCallInit f fd) (T : CCl K CC) : FnOk P w K mg base CX0 1 f fd ["self", "number", "numbers", "row", "end"] (spCallInit CC) := by
  refine F.ok scCallInit (fun vs H Q E h => ?_) (fun cdv A outer s H vs Q E hr h => ?_)
  · obtain ⟨p, dx, pn, pr, n, e, rfl, _⟩ := h
    rfl
  · obtain ⟨p, dx, pn, pr, n, e, rfl, hp, k⟩ := h
    refine ⟨_, pss_cons (ps_fld (pv 0) (pv 1) rfl) (pss_cons (ps_fld (pv 0) (pv 2) rfl) (pss_cons (ps_fld (pv 0) (pv 3) rfl) (pss_one (ps_fld (pv 0) (pv 4) rfl)))), ?_⟩
    refine ⟨_, rfl, _, rfl, p, CC, dx, _, rfl, hp, T.cl, T.number, (by show 0 < 1000; decide), ?_⟩
    refine ⟨_, rfl, _, rfl, p, CC, dx, _, rfl, upd_same, T.cl, T.numbers, (by show 1 < 1000; decide), ?_⟩
    refine ⟨_, rfl, _, rfl, p, CC, dx, _, rfl, upd_same, T.cl, T.row, (by show 2 < 1000; decide), ?_⟩
    refine ⟨_, rfl, _, rfl, p, CC, dx, _, rfl, upd_same, T.cl, T.end_, (by show 3 < 1000; decide), ?_⟩
    refine k _ (upd_same.trans rfl) fun b o eb hb => ?_
    rw [upd_ne hb, upd_ne hb, upd_ne hb, upd_ne hb]; exact eb
abbrev sRead : Stmt := top 4
abbrev nRead : List Str := ["calls", "start", "number", "end", "numbers", "row_start", "row_end"]
theorem scRead : FnScope nRead ["calls", "start"] (defScope sRead) := ⟨rfl, rfl, rfl, by decide +kernel, rfl, by decide +kernel, by decide +kernel⟩
def spRead (K : PySem.W.Frag) (CC : Addr) : Sp := fun vs H Q _ => ∃ (cp : Addr) (cs : List Int) (start q : Nat) (nums row t : List Int), vs = [.ref cp, .int start] ∧ SqL K H cp (cs.map V.int) ∧ cs.length ≤ 16000 ∧ CallHead (cs.drop start) q nums row t ∧
  ∀ (a pn pr : Addr) (H' : Hp), Same H H' → H a = none → H pn = none → H pr = none → CallAt CC H' a q pn pr ((cs.length - t.length : Nat) : Int) → LI H' pn nums → LI H' pr row → Q (.ref a) H'
theorem drop_app {l a b : List Int} {n : Nat} (h : l.drop n = a ++ b) : l.drop (n + a.length) = b := by
  rw [← List.drop_drop, h, List.drop_left]
theorem take_app {l a b : List Int} {n : Nat} (h : l.drop n = a ++ b) : (l.drop n).take a.length = a := by
  rw [h, List.take_left]
theorem got_at {l r : List Int} {n : Nat} {x : Int} (h : l.drop n = x :: r) : l[n]? = some x := by
  have : (l.drop n)[0]? = some x := by rw [h]; rfl
  rw [List.getElem?_drop, Nat.add_zero] at this
  exact this
theorem len_drop {l a b : List Int} {n : Nat} (h : l.drop n = a ++ b) : n + a.length ≤ l.length ∨ a = [] := by
  by_cases e : a = []
  · exact .inr e
  · left
    have h1 := congrArg List.length h
    rw [List.length_drop, List.length_append] at h1
    have : 0 < a.length := List.length_pos_iff.mpr e
    omega
theorem ok_read {f : Addr} {fd : FuncData} (F : Fun K "read_call" "read_call" sRead f fd) (B : Bi mg) (NT : NumT K mg) (RT : RowT K mg) (M : Mkr P w K mg base 1 "Call" CC ["self", "number", "numbers", "row", "end"] (spCallInit CC)) :
    FnOk P w K mg base CX0 3 f fd ["calls", "start"] (spRead K CC) := by
  refine F.ok scRead (fun vs H Q E h => ?_) (fun cdv A outer s H vs Q E hr h => ?_)
  · obtain ⟨cp, cs, start, q, nums, row, t, rfl, _⟩ := h
    rfl
  · obtain ⟨cp, cs, start, q, nums, row, t, rfl, hcp, hcl, ⟨hq, hnl, hh⟩, k⟩ := h
    have nd := scRead.nd
    obtain ⟨tn, as, hmN, kN, hal, hNs⟩ := NT.ex
    obtain ⟨d, at_, hmR, hds, kR, hRs, _⟩ := RT.get
    refine ⟨_, pss_cons (ps_set (i := 2) nd rfl (Or.inl rfl) (pe_ix ix_list (pv 0) (pv 1) (fun _ _ => rfl)))
      (pss_cons (ps_set (i := 3) nd rfl (Or.inl rfl) (pe_op op_add (pe_op op_add (pv 1) pe_int) (pe_callB call_len_seq rfl B.len bt_len (pa_cons (pe_ix ix_tup (pe_glob rfl hmN (show RelV (.ref tn) _ from rfl)) (pv 2) (fun _ _ => rfl)) pa_nil))))
      (pss_cons (ps_set (i := 4) nd rfl (Or.inl rfl) (pe_slice sl_list (pv 0) (po_some (pe_op op_add (pv 1) pe_int)) (po_some (pv 3))))
      (pss_cons (ps_if (pt_cmpR (op_notInK hds kR) (pv 2) (pe_glob rfl hmR (show RelV (.ref d) _ from rfl)) (by with_unfolding_all rfl)) (pss_one (ps_ret (pmake M hr rfl (pa_cons (pv 2) (pa_cons (pv 4) (pa_cons (pe_lst pa_nil) (pa_cons (pv 3) pa_nil))))))) pss_nil)
      (pss_cons (ps_set (i := 5) nd rfl (Or.inl rfl) (pe_op op_add (pv 3) pe_int))
      (pss_cons (ps_set (i := 6) nd rfl (Or.inl rfl) (pe_op op_add (pv 5) (pe_ix ix_list (pv 0) (pv 3) (fun _ _ => rfl))))
      (pss_one (ps_ret (pmake M hr rfl (pa_cons (pv 2) (pa_cons (pv 4) (pa_cons (pe_slice sl_list (pv 0) (po_some (pv 5)) (po_some (pv 6))) (pa_cons (pv 6) pa_nil)))))))))))), ?_⟩
    obtain ⟨rest, hrest⟩ : ∃ rest, cs.drop start = (q : Int) :: (nums ++ rest) := by
      rcases hh with ⟨_, _, e⟩ | ⟨_, e⟩
      · exact ⟨_, e⟩
      · exact ⟨_, e⟩
    have d0 : cs.drop start = [(q : Int)] ++ (nums ++ rest) := hrest
    have d1 : cs.drop (start + 1) = nums ++ rest := drop_app d0
    have hsl : start < cs.length := (List.getElem?_eq_some_iff.mp (got_at hrest)).1
    have hnle : start + 1 + nums.length ≤ cs.length := by
      have h1 := congrArg List.length d1
      rw [List.length_drop, List.length_append] at h1
      omega
    have hat : atI (cs.map V.int) (start : Int) = some (.int q) := atI_nat (int_of (got_at hrest))
    obtain ⟨aq, haq⟩ : ∃ aq, as[q]? = some aq := ⟨_, List.getElem?_eq_getElem (by rw [hal]; exact hq)⟩
    obtain ⟨ps, kps, hps⟩ := hNs q aq haq
    have hata : atI (as.map V.ref) (q : Int) = some (.ref aq) := atI_nat (by rw [List.getElem?_map, haq]; rfl)
    have hpl : (ps.map V.ref).length = nums.length := by rw [List.length_map, hps.1, hnl]
    refine ⟨_, rfl, _, rfl, cp, _, _, _, rfl, rfl, hcp, hat, ?_⟩
    refine ⟨_, rfl, _, _, rfl, rfl, _, rfl, tn, _, _, _, rfl, rfl, kN.sq H, hata, aq, _, rfl, .inr (kps.sq H), _, _, rfl, rfl, ?_⟩
    rw [hpl]
    have hcut : cutV (cs.map V.int) (some ((start : Int) + 1)) (some ((start : Int) + 1 + (nums.length : Nat))) = nums.map V.int := by
      rw [show (start : Int) + 1 = ((start + 1 : Nat) : Int) by omega, cut_mid hnle, take_app d1]
    refine ⟨_, rfl, _, rfl, _, _, rfl, rfl, _, rfl, _, rfl, _, rfl, cp, _, rfl, hcp, fun pn hpn => ?_⟩
    have s1 : Same H (upd H pn (.lst (cutV (cs.map V.int) (some ((start : Int) + 1)) (some ((start : Int) + 1 + (nums.length : Nat)))))) := Sm.one hpn
    have hpn1 : LI (upd H pn (.lst (cutV (cs.map V.int) (some ((start : Int) + 1)) (some ((start : Int) + 1 + (nums.length : Nat)))))) pn nums := upd_same.trans (by rw [hcut])
    generalize (upd H pn (.lst (cutV (cs.map V.int) (some ((start : Int) + 1)) (some ((start : Int) + 1 + (nums.length : Nat)))))) = H1 at s1 hpn1
    refine ⟨_, rfl, q, hq, rfl, rfl, _, rfl, ?_⟩
    have make : ∀ (H2 : Hp) (pr : Addr) (e : Int), Same H1 H2 → H pr = none → LI H2 pr row → e = ((cs.length - t.length : Nat) : Int) →
        ∀ x dx, H2 x = none → H2 dx = none → dx ≠ x → spCallInit CC (.ref x :: ([V.int q, .ref pn, .ref pr, .int e] ++ [])) (upd (upd H2 dx (.own x)) x (.ins CC dx [])) (fun v H3 => v = .non ∧ Q (.ref x) H3) E0 := fun H2 pr e s2 hprn hpr ee x dx hx hdx hne => by
      refine ⟨x, dx, pn, pr, q, e, rfl, upd_same, fun H3 h3 k3 => ⟨rfl, ?_⟩⟩
      have s3 : Same H2 H3 := Same.made hx hdx k3
      subst ee
      exact k x pn pr H3 (s1.trans (s2.trans s3)) ((s1.trans s2).free hx) hpn hprn ⟨dx, h3⟩ (s3 _ _ (s2 _ _ hpn1)) (s3 _ _ hpr)
    rw [hRs q hq]
    rcases hh with ⟨hb, rfl, e⟩ | ⟨hb, e⟩
    · have er : rest = t := by rw [hrest] at e; exact List.append_cancel_left (List.cons.inj e).2
      subst er
      rw [hb]
      refine iteT ?_
      refine ⟨_, rfl, _, rfl, Nat.zero_le _, fun pr hpr => ⟨_, rfl, ?_⟩⟩
      refine make _ pr _ (Sm.one hpr) (s1.free hpr) upd_same ?_
      have h1 := congrArg List.length d1
      rw [List.length_drop, List.length_append] at h1
      omega
    · have er : rest = (row.length : Int) :: (row ++ t) := by rw [hrest] at e; exact List.append_cancel_left (List.cons.inj e).2
      subst er
      rw [hb]
      refine iteF ?_
      have d2 : cs.drop (start + 1 + nums.length) = [(row.length : Int)] ++ (row ++ t) := drop_app d1
      have d3 : cs.drop (start + 1 + nums.length + 1) = row ++ t := drop_app d2
      have hle3 : start + 1 + nums.length + 1 + row.length ≤ cs.length := by
        have h1 := congrArg List.length d2
        rw [List.length_drop, List.length_append, List.length_append] at h1
        have : ([(row.length : Int)] : List Int).length = 1 := rfl
        omega
      have hat2 : atI (cs.map V.int) ((start : Int) + 1 + (nums.length : Nat)) = some (.int row.length) := by
        rw [show (start : Int) + 1 + (nums.length : Nat) = ((start + 1 + nums.length : Nat) : Int) by omega]
        exact atI_nat (int_of (got_at d2))
      refine ⟨_, rfl, _, _, rfl, rfl, ?_⟩
      refine ⟨_, rfl, _, rfl, _, rfl, cp, _, _, _, rfl, rfl, s1.seq hcp, hat2, _, _, rfl, rfl, ?_⟩
      have hcut2 : cutV (cs.map V.int) (some ((start : Int) + 1 + (nums.length : Nat) + 1)) (some ((start : Int) + 1 + (nums.length : Nat) + 1 + (row.length : Nat))) = row.map V.int := by
        rw [show (start : Int) + 1 + (nums.length : Nat) + 1 = ((start + 1 + nums.length + 1 : Nat) : Int) by omega, cut_mid hle3, take_app d3]
      refine ⟨_, rfl, _, rfl, _, rfl, _, rfl, _, rfl, _, rfl, _, rfl, cp, _, rfl, s1.seq hcp, fun pr hpr => ⟨_, rfl, ?_⟩⟩
      refine make _ pr _ (Sm.one hpr) (s1.free hpr) (upd_same.trans (by rw [hcut2])) ?_
      have h1 := congrArg List.length d3
      rw [List.length_drop, List.length_append] at h1
      omega
abbrev sCallIn : Stmt := top 7
abbrev nCallIn : List Str := ["call", "bounds"]
theorem scCallIn : FnScope nCallIn ["call"] (defScope sCallIn) := ⟨rfl, rfl, rfl, by decide +kernel, rfl, by decide +kernel, by decide +kernel⟩
def spCallIn (CC : Addr) : Sp := fun vs H Q _ => ∃ (a pn pr : Addr) (q : Nat) (nums row : List Int) (e : Int), vs = [.ref a] ∧ CallAt CC H a q pn pr e ∧ LI H pn nums ∧ LI H pr row ∧ q < 21 ∧ ∀ H' : Hp, Same H H' → Q (.bl (callIn q nums row)) H'
theorem ok_callIn {f : Addr} {fd : FuncData} (F : Fun K "call_within" "call_within" sCallIn f fd) (T : CCl K CC) (NT : NumT K mg) (RT : RowT K mg) (C1 : Cal P w K mg base 1 "numbers_within" ["numbers", "ranges"] (spNumIn K)) (C2 : Cal P w K mg base 1 "row_within" ["row", "most", "low", "high"] spRowIn) :
    FnOk P w K mg base CX0 2 f fd ["call"] (spCallIn CC) := by
  refine F.ok scCallIn (fun vs H Q E h => ?_) (fun cdv A outer s H vs Q E hr h => ?_)
  · obtain ⟨a, pn, pr, q, nums, row, e, rfl, _⟩ := h
    rfl
  · obtain ⟨a, pn, pr, q, nums, row, e, rfl, ⟨dx, ha⟩, hpn, hpr, hq, k⟩ := h
    have nd := scCallIn.nd
    obtain ⟨tn, as, hmN, kN, hal, hNs⟩ := NT.ex
    obtain ⟨d, at_, hmR, hds, kR, hRs, hRt⟩ := RT.get
    refine ⟨_, pss_cons (ps_if (pt_not (pt_val (pcall C1 hr rfl (pa_cons (pe_fld (pv 0) rfl) (pa_cons (pe_ix ix_tup (pe_glob rfl hmN (show RelV (.ref tn) _ from rfl)) (pe_fld (pv 0) rfl) (fun _ _ => rfl)) pa_nil))))) (pss_one (ps_ret pe_bl)) pss_nil)
      (pss_cons (ps_if (pt_cmpR (op_notInK hds kR) (pe_fld (pv 0) rfl) (pe_glob rfl hmR (show RelV (.ref d) _ from rfl)) (by with_unfolding_all rfl)) (pss_one (ps_ret pe_bl)) pss_nil)
      (pss_cons (ps_set (i := 1) nd rfl (Or.inl rfl) (pe_ix (ix_rows kR) (pe_glob rfl hmR (show RelV (.ref d) _ from rfl)) (pe_fld (pv 0) rfl) (fun _ _ => rfl)))
      (pss_one (ps_ret (pcall C2 hr rfl (pa_cons (pe_fld (pv 0) rfl) (pa_cons (pe_ix ix_tup (pv 1) pe_int (fun _ _ => rfl)) (pa_cons (pe_ix ix_tup (pv 1) pe_int (fun _ _ => rfl)) (pa_cons (pe_ix ix_tup (pv 1) pe_int (fun _ _ => rfl)) pa_nil))))))))), ?_⟩
    obtain ⟨aq, haq⟩ : ∃ aq, as[q]? = some aq := ⟨_, List.getElem?_eq_getElem (by rw [hal]; exact hq)⟩
    obtain ⟨ps, kps, hps⟩ := hNs q aq haq
    have hata : atI (as.map V.ref) (q : Int) = some (.ref aq) := atI_nat (by rw [List.getElem?_map, haq]; rfl)
    refine ⟨_, rfl, a, CC, dx, _, _, rfl, ha, T.cl, T.numbers, cf_numbers .., _, rfl, a, CC, dx, _, _, rfl, ha, T.cl, T.number, cf_number .., tn, _, _, _, rfl, rfl, kN.sq H, hata, pn, aq, nums, ps, _, rfl, hpn, kps, hps, fun H1 s1 => ⟨_, rfl, ?_⟩⟩
    have ha1 := s1 _ _ ha
    cases hb : numsIn nums ((ranges[q]?).getD []) with
    | false =>
      refine iteT ?_
      have := k H1 s1
      unfold callIn at this
      rw [hb, Bool.false_and] at this
      exact this
    | true =>
      refine iteF ?_
      refine ⟨_, rfl, a, CC, dx, _, _, rfl, ha1, T.cl, T.number, cf_number .., q, hq, rfl, rfl, _, rfl, ?_⟩
      rw [hRs q hq]
      cases hz : rowsOf q with
      | none =>
        refine iteT ?_
        have := k H1 s1
        unfold callIn at this
        rw [hb, hz, Bool.true_and] at this
        exact this
      | some z =>
        refine iteF ?_
        obtain ⟨b, hbq⟩ : ∃ b, at_ q = some b := Option.isSome_iff_exists.mp (by rw [hRs q hq, hz]; rfl)
        have kb := hRt q b z hbq hz
        refine ⟨_, rfl, a, CC, dx, _, _, rfl, ha1, T.cl, T.number, cf_number .., q, b, hq, rfl, rfl, hbq, ?_⟩
        refine ⟨_, rfl, a, CC, dx, _, _, rfl, ha1, T.cl, T.row, cf_row .., ?_⟩
        refine pvIxT pvVar pvC (kb.sq H1) (atI_nat (j := 0) rfl) _ (pvIxT pvVar pvC (kb.sq H1) (atI_nat (j := 1) rfl) _ (pvIxT pvVar pvC (kb.sq H1) (atI_nat (j := 2) rfl) _ ?_))
        refine ⟨pr, row, z, rfl, s1 _ _ hpr, fun H2 s2 => ?_⟩
        have := k H2 (s1.trans s2)
        unfold callIn at this
        rw [hb, hz, Bool.true_and] at this
        exact this
end
end Hs
end
section
set_option Elab.async false
set_option linter.all false
set_option maxRecDepth 100000
set_option maxHeartbeats 4000000
namespace Hs
open PySem PySem.Spec
open PyProof.Rows hiding St
open L2
def mBegin (h : HS) (n : Int) : HS × List Int := if h.begun = true then (h, [-3]) else ({ h with begun := true, bases := List.replicate n.toNat 0 }, [0])
def mLoad (h : HS) (need : Int) (row : List Int) : HS × List Int :=
  if row.length ≠ h.bases.length ∨ row.sum < need then (h, [-7]) else if h.needs.length = 8 then (h, [-4]) else ({ h with needs := h.needs ++ [need], rooms := h.rooms ++ [row] }, [0, (h.needs.length : Int) + 1])
def mNeed (h : HS) (c x : Int) : HS × List Int :=
  if (h.needs.length : Int) < c then (h, [-5]) else if (rowAt h (c.toNat - 1)).sum < x then (h, [-7]) else ({ h with needs := Vbemat.setAt x (c.toNat - 1) h.needs }, [0])
def mRoom (h : HS) (c t x : Int) : HS × List Int :=
  if (h.needs.length : Int) < c then (h, [-5]) else if (h.bases.length : Int) < t then (h, [-8]) else
    if (Vbemat.setAt x (t.toNat - 1) (rowAt h (c.toNat - 1))).sum < Vbemat.nth h.needs (c.toNat - 1) then (h, [-7]) else ({ h with rooms := h.rooms.set (c.toNat - 1) (Vbemat.setAt x (t.toNat - 1) (rowAt h (c.toNat - 1))) }, [0])
def mBase (h : HS) (t x : Int) : HS × List Int := if (h.bases.length : Int) < t then (h, [-8]) else ({ h with bases := Vbemat.setAt x (t.toNat - 1) h.bases }, [0])
def mAdd (h : HS) : HS × List Int := if h.bases.length = 8 then (h, [-4]) else ({ h with bases := h.bases ++ [0], rooms := h.rooms.map fun r => r ++ [0] }, [0])
def getOk (got need : Int) (row : List Int) : Bool := decide (got ≤ Vbemat.nth row 0) && decide (got ≤ need) && decide (need - got ≤ (row.drop 1).sum)
def canGet (h : HS) (gets : List Int) : Bool := decide (gets.length = h.needs.length) && (gets.zip (loadsOf h)).all fun y => getOk y.1 y.2.need y.2.rooms
def mPass (h : HS) (gets : List Int) : HS × List Int :=
  if h.bases.length = 0 then (h, [-8]) else if canGet h gets = false then (h, [-7]) else
    ({ h with needs := (h.needs.zip gets).map (fun z => z.1 - z.2), rooms := h.rooms.map fun r => r.drop 1, bases := h.bases.drop 1, passed := h.passed + 1 }, [0, Vbemat.nth h.bases 0 + gets.sum])
structure MKeep (H H' : Hp) (a : Addr) (d d' : HAd) : Prop where
  kp : ∀ b o, H b = some o → b ≠ a → b ≠ d.pb → b ≠ d.pn → b ≠ d.pr → H' b = some o
  nb : d'.pb = d.pb ∨ H d'.pb = none
  nn : d'.pn = d.pn ∨ H d'.pn = none
  nr : d'.pr = d.pr ∨ H d'.pr = none
theorem MKeep.same {H H' : Hp} {a : Addr} {d : HAd} (s : Same H H') : MKeep H H' a d d := ⟨fun b o e _ _ _ _ => s b o e, .inl rfl, .inl rfl, .inl rfl⟩
abbrev MEnd (C : Addr) (H : Hp) (a : Addr) (d : HAd) (r : HS × List Int) (Q : VK) : Prop := ∀ (q : Addr) (H' : Hp) (d' : HAd), HAt C H' a d' r.1 → LI H' q r.2 → MKeep H H' a d d' → Q (.ref q) H'
theorem mend_no {C : Addr} {H : Hp} {a : Addr} {d : HAd} {h : HS} {r : HS × List Int} {Q : VK} {z : Int} (k : MEnd C H a d r Q) (x : HAt C H a d h) (e : r = (h, [z])) : ([V.int z] : List V).length ≤ sizeLine ∧ ∀ p, H p = none → Q (.ref p) (upd H p (.lst [V.int z])) := by
  subst e
  exact ⟨(by show 1 ≤ sizeLine; decide), fun p hp => k p _ d (x.same (Sm.one hp)) upd_same (MKeep.same (Sm.one hp))⟩
def spM0 (C : Addr) (g : HS → HS × List Int) : Sp := fun vs H Q _ => ∃ (a : Addr) (d : HAd) (h : HS), vs = [.ref a] ∧ HAt C H a d h ∧ HGood h ∧ MEnd C H a d (g h) Q
def spM1 (C : Addr) (pre : Int → Prop) (g : HS → Int → HS × List Int) : Sp := fun vs H Q _ => ∃ (a : Addr) (d : HAd) (h : HS) (i : Int), vs = [.ref a, .int i] ∧ HAt C H a d h ∧ HGood h ∧ pre i ∧ MEnd C H a d (g h i) Q
def spM2 (C : Addr) (pre : Int → Int → Prop) (g : HS → Int → Int → HS × List Int) : Sp := fun vs H Q _ => ∃ (a : Addr) (d : HAd) (h : HS) (i j : Int), vs = [.ref a, .int i, .int j] ∧ HAt C H a d h ∧ HGood h ∧ pre i j ∧ MEnd C H a d (g h i j) Q
def spM3 (C : Addr) (pre : Int → Int → Int → Prop) (g : HS → Int → Int → Int → HS × List Int) : Sp := fun vs H Q _ => ∃ (a : Addr) (d : HAd) (h : HS) (i j l : Int), vs = [.ref a, .int i, .int j, .int l] ∧ HAt C H a d h ∧ HGood h ∧ pre i j l ∧ MEnd C H a d (g h i j l) Q
def spMIL (C : Addr) (pre : List Int → Prop) (g : HS → Int → List Int → HS × List Int) : Sp := fun vs H Q _ => ∃ (a : Addr) (d : HAd) (h : HS) (i : Int) (p : Addr) (l : List Int), vs = [.ref a, .int i, .ref p] ∧ LI H p l ∧ p ≠ d.pn ∧ HAt C H a d h ∧ HGood h ∧ pre l ∧ MEnd C H a d (g h i l) Q
def spML (C : Addr) (pre : List Int → Prop) (g : HS → List Int → HS × List Int) : Sp := fun vs H Q _ => ∃ (a : Addr) (d : HAd) (h : HS) (p : Addr) (l : List Int), vs = [.ref a, .ref p] ∧ LI H p l ∧ HAt C H a d h ∧ HGood h ∧ pre l ∧ MEnd C H a d (g h l) Q
theorem HAt.apart {C : Addr} {H : Hp} {a : Addr} {d : HAd} {h : HS} (x : HAt C H a d h) : d.pb ≠ a ∧ d.pn ≠ a ∧ d.pr ≠ a ∧ ∀ p ∈ d.rs, p ≠ a := by
  refine ⟨ne_of x.b x.ins (by intro z; cases z), ne_of x.n x.ins (by intro z; cases z), ne_of x.r x.ins (by intro z; cases z), fun p hp => ?_⟩
  obtain ⟨j, hj⟩ := List.getElem?_of_mem hp
  have hl : j < h.rooms.length := by rw [← x.rl]; exact (List.getElem?_eq_some_iff.mp hj).1
  exact ne_of (x.rows j p _ hj (List.getElem?_eq_getElem hl)) x.ins (by intro z; cases z)
theorem HAt.row_some {C : Addr} {H : Hp} {a : Addr} {d : HAd} {h : HS} (x : HAt C H a d h) {p : Addr} (hp : p ∈ d.rs) : ∃ o, H p = some o := by
  obtain ⟨j, hj⟩ := List.getElem?_of_mem hp
  have hl : j < h.rooms.length := by rw [← x.rl]; exact (List.getElem?_eq_some_iff.mp hj).1
  exact ⟨_, x.rows j p _ hj (List.getElem?_eq_getElem hl)⟩
section
variable {P : Program} {w : World} {K : PySem.W.Frag} {mg : Str → Option Value} {base : Heap} {C : Addr}
abbrev sHInit : Stmt := inClass (top 9) 0
abbrev nHInit : List Str := ["self"]
theorem scHInit : FnScope nHInit ["self"] (defScope sHInit) := ⟨rfl, rfl, rfl, by decide +kernel, rfl, by decide +kernel, by decide +kernel⟩
def h0 : HS := ⟨false, [], [], [], 0⟩
def spHInit (C : Addr) : Sp := fun vs H Q _ => ∃ (p dx : Addr), vs = [.ref p] ∧ H p = some (.ins C dx []) ∧ ∀ (H' : Hp) (d : HAd), HAt C H' p d h0 → (∀ b o, H b = some o → b ≠ p → H' b = some o) → H d.pb = none → H d.pn = none → H d.pr = none → Q .non H'
theorem ok_hInit {f : Addr} {fd : FuncData} (F : Fun K "__init__" "House.__init__" sHInit f fd) (T : HC K C) : FnOk P w K mg base CX0 1 f fd ["self"] (spHInit C) := by
  refine F.ok scHInit (fun vs H Q E h => ?_) (fun cdv A outer s H vs Q E hr h => ?_)
  · obtain ⟨p, dx, rfl, _⟩ := h
    rfl
  · obtain ⟨p, dx, rfl, hp, k⟩ := h
    refine ⟨_, pss_cons (ps_fld (pv 0) pe_bl rfl) (pss_cons (ps_fld (pv 0) (pe_lst pa_nil) rfl) (pss_cons (ps_fld (pv 0) (pe_lst pa_nil) rfl) (pss_cons (ps_fld (pv 0) (pe_lst pa_nil) rfl) (pss_one (ps_fld (pv 0) pe_int rfl))))), ?_⟩
    refine ⟨_, rfl, p, C, dx, _, rfl, hp, T.cl, T.begun, (by show 0 < 1000; decide), ?_⟩
    refine ⟨Nat.zero_le _, fun l1 hl1 => ?_⟩
    have n1 : p ≠ l1 := ne_of_none upd_same hl1
    have f1 : H l1 = none := by rw [upd_ne (Ne.symm n1)] at hl1; exact hl1
    refine ⟨_, rfl, p, C, dx, _, rfl, (by rw [upd_ne n1]; exact upd_same), T.cl, T.bases, (by show 1 < 1000; decide), ?_⟩
    refine ⟨Nat.zero_le _, fun l2 hl2 => ?_⟩
    have n2 : p ≠ l2 := ne_of_none upd_same hl2
    have n12 : l1 ≠ l2 := ne_of_none (by rw [upd_ne (Ne.symm n1)]; exact upd_same) hl2
    have f2 : H l2 = none := by
      rw [upd_ne (Ne.symm n2), upd_ne (Ne.symm n12), upd_ne (Ne.symm n2)] at hl2; exact hl2
    refine ⟨_, rfl, p, C, dx, _, rfl, (by rw [upd_ne n2]; exact upd_same), T.cl, T.needs, (by show 2 < 1000; decide), ?_⟩
    refine ⟨Nat.zero_le _, fun l3 hl3 => ?_⟩
    have n3 : p ≠ l3 := ne_of_none upd_same hl3
    have n23 : l2 ≠ l3 := ne_of_none (by rw [upd_ne (Ne.symm n2)]; exact upd_same) hl3
    have n13 : l1 ≠ l3 := ne_of_none (by rw [upd_ne (Ne.symm n1), upd_ne n12, upd_ne (Ne.symm n1)]; exact upd_same) hl3
    have f3 : H l3 = none := by
      rw [upd_ne (Ne.symm n3), upd_ne (Ne.symm n23), upd_ne (Ne.symm n3), upd_ne (Ne.symm n13), upd_ne (Ne.symm n3)] at hl3; exact hl3
    refine ⟨_, rfl, p, C, dx, _, rfl, (by rw [upd_ne n3]; exact upd_same), T.cl, T.rooms, (by show 3 < 1000; decide), ?_⟩
    refine ⟨_, rfl, p, C, dx, _, rfl, upd_same, T.cl, T.passed, (by show 4 < 1000; decide), ?_⟩
    refine k _ ⟨dx, l1, l2, l3, []⟩ ⟨upd_same.trans rfl, ?_, ?_, ?_, rfl, fun j q row e => by simp at e, n12, n13, n23, by simp, by simp, by simp⟩ (fun b o eb hb => ?_) f1 f2 f3
    · show _ = _
      rw [upd_ne (Ne.symm n1), upd_ne (Ne.symm n1), upd_ne n13, upd_ne (Ne.symm n1), upd_ne n12, upd_ne (Ne.symm n1)]; exact upd_same
    · show _ = _
      rw [upd_ne (Ne.symm n2), upd_ne (Ne.symm n2), upd_ne n23, upd_ne (Ne.symm n2)]; exact upd_same
    · show _ = _
      rw [upd_ne (Ne.symm n3), upd_ne (Ne.symm n3)]; exact upd_same
    · rw [upd_ne hb, upd_ne hb, upd_ne (ne_of_none eb f3), upd_ne hb, upd_ne (ne_of_none eb f2), upd_ne hb, upd_ne (ne_of_none eb f1), upd_ne hb]; exact eb
end
end Hs
end
section
set_option Elab.async false
set_option linter.all false
set_option maxRecDepth 100000
set_option maxHeartbeats 4000000
namespace Hs
open PySem PySem.Spec
open PyProof.Rows hiding St
open L2
theorem rep_rd' {tb : TE} {σ : St} {H : Hp} {Q : VK} {c : Int} {n : Nat} (hn : n ≤ 8) (hb : ∀ H', Same H H' → PvE tb σ H' (.int (n : Nat))) (k : ∀ q H', Same H H' → H q = none → LI H' q (List.replicate n c) → Q (.ref q) H') :
    tOp rRep (tLst (tCons (tC (.int c)) tNil)) tb σ H Q := by
  refine ⟨(by show 1 ≤ sizeLine; decide), fun l hl => ?_⟩
  refine hb _ (Sm.one hl) _ ⟨l, (n : Int), _, rfl, rfl, upd_same, by omega, by omega, ?_, fun p hp => k p _ (Sm.add (Sm.one hl) hp) ((Sm.one hl).free hp) ?_⟩
  · rw [Int.toNat_natCast]; exact line_le (by show 1 * n ≤ 100000; omega)
  · rw [Int.toNat_natCast, rep_flat]; exact upd_same
section
variable {P : Program} {w : World} {K : PySem.W.Frag} {mg : Str → Option Value} {base : Heap} {C : Addr}
abbrev sBegin : Stmt := inClass (top 9) 1
abbrev nBegin : List Str := ["self", "periods"]
theorem scBegin : FnScope nBegin ["self", "periods"] (defScope sBegin) := ⟨rfl, rfl, rfl, by decide +kernel, rfl, by decide +kernel, by decide +kernel⟩
theorem ok_begin {f : Addr} {fd : FuncData} (F : Fun K "begin" "House.begin" sBegin f fd) (T : HC K C) : FnOk P w K mg base CX0 1 f fd ["self", "periods"] (spM1 C (fun n => 1 ≤ n ∧ n ≤ 8) mBegin) := by
  refine F.ok scBegin (fun vs H Q E h => ?_) (fun cdv A outer s H vs Q E hr h => ?_)
  · obtain ⟨a, d, h, i, rfl, _⟩ := h
    rfl
  · obtain ⟨a, d, h, i, rfl, x, hg, ⟨h1, h2⟩, k⟩ := h
    refine ⟨_, pss_cons (ps_if (pt_val (pe_fld (pv 0) rfl)) (pss_one (ps_ret (pe_lst (pa_cons (pe_un un_neg pe_int) pa_nil)))) pss_nil)
      (pss_cons (ps_fld (pv 0) pe_bl rfl) (pss_cons (ps_fld (pv 0) (pe_op op_rep (pe_lst (pa_cons pe_int pa_nil)) (pv 1)) rfl) (pss_one (ps_ret (pe_lst (pa_cons pe_int pa_nil)))))), ?_⟩
    refine ifS (pvB (pvBegun T x pvVar)) (fun hb => ?_) (fun hb => ?_)
    · obtain ⟨e1, e2⟩ := mend_no k x (z := -3) (by unfold mBegin; rw [if_pos hb])
      exact ⟨_, rfl, e1, e2⟩
    · obtain ⟨a1, a2, a3, a4⟩ := x.apart
      refine ⟨_, rfl, a, C, d.dx, _, rfl, x.ins, T.cl, T.begun, (by show 5 < 1000; decide), ?_⟩
      refine rep_rd' (n := i.toNat) (by omega) (fun H' s' => ?_) (fun q H2 s2 hqn hq => ?_)
      · have e : ((i.toNat : Nat) : Int) = i := by omega
        rw [e]
        exact pvVar
      · have hqa : q ≠ a := fun z => by rw [z, upd_same] at hqn; cases hqn
        have hqn0 : H q = none := by rw [upd_ne hqa] at hqn; exact hqn
        have kp1 : ∀ b o, H b = some o → b ≠ a → H2 b = some o := fun b o e hb => s2 _ _ (by rw [upd_ne hb]; exact e)
        refine ⟨_, rfl, a, C, d.dx, _, rfl, s2 _ _ upd_same, T.cl, T.bases, (by show 5 < 1000; decide), ?_⟩
        refine ⟨(by show 1 ≤ sizeLine; decide), fun r hr => ?_⟩
        have er : mBegin h i = ({ h with begun := true, bases := List.replicate i.toNat 0 }, [0]) := by unfold mBegin; rw [if_neg (by rw [hb]; exact Bool.false_ne_true)]
        have k := k
        rw [er] at k
        have hra : r ≠ a := fun z => by rw [z, upd_same] at hr; cases hr
        have hr2 : H2 r = none := by rw [upd_ne hra] at hr; exact hr
        have kp2 : ∀ b o, H b = some o → b ≠ a → (upd (upd H2 a (.ins C d.dx (putF "bases" (.ref q) (putF "begun" (.bl true) (hfs h.begun d.pb d.pn d.pr h.passed))))) r (.lst [V.int 0])) b = some o := fun b o e hb => by
          rw [upd_ne (ne_of_none (kp1 b o e hb) hr2), upd_ne hb]; exact kp1 b o e hb
        refine k r _ { d with pb := q } ⟨?_, ?_, kp2 _ _ x.n a2, kp2 _ _ x.r a3, x.rl, fun j p row e1 e2 => kp2 _ _ (x.rows j p row e1 e2) (a4 p (List.mem_of_getElem? e1)), (ne_of_none x.n hqn0).symm, (ne_of_none x.r hqn0).symm, x.nr, ?_, x.ns.2.1, x.ns.2.2⟩ upd_same ⟨fun b o e hb _ _ _ => kp2 b o e hb, .inr hqn0, .inl rfl, .inl rfl⟩
        · rw [upd_ne (Ne.symm hra)]; exact upd_same.trans rfl
        · show _ = _
          rw [upd_ne (ne_of_none hq hr2), upd_ne hqa]; exact hq
        · intro z
          obtain ⟨o, ho⟩ := x.row_some z
          rw [hqn0] at ho; cases ho
abbrev sChBase : Stmt := inClass (top 9) 5
abbrev nChBase : List Str := ["self", "period", "amount"]
theorem scChBase : FnScope nChBase ["self", "period", "amount"] (defScope sChBase) := ⟨rfl, rfl, rfl, by decide +kernel, rfl, by decide +kernel, by decide +kernel⟩
theorem ok_chBase {f : Addr} {fd : FuncData} (F : Fun K "change_base" "House.change_base" sChBase f fd) (B : Bi mg) (T : HC K C) : FnOk P w K mg base CX0 1 f fd ["self", "period", "amount"] (spM2 C (fun t _ => 1 ≤ t) mBase) := by
  refine F.ok scChBase (fun vs H Q E h => ?_) (fun cdv A outer s H vs Q E hr h => ?_)
  · obtain ⟨a, d, h, i, j, rfl, _⟩ := h
    rfl
  · obtain ⟨a, d, h, i, j, rfl, x, hg, h1, k⟩ := h
    refine ⟨_, pss_cons (ps_if (pt_cmp (pc_gt (pv 1) (pe_callB call_len_seq rfl B.len bt_len (pa_cons (pe_fld (pv 0) rfl) pa_nil)))) (pss_one (ps_ret (pe_lst (pa_cons (pe_un un_neg pe_int) pa_nil)))) pss_nil)
      (pss_cons (ps_asg (pv 2) (pg_sub (pe_fld (pv 0) rfl) (pe_op op_sub (pv 1) pe_int) set_list)) (pss_one (ps_ret (pe_lst (pa_cons pe_int pa_nil))))), ?_⟩
    refine ifS (pvCmp pvVar (pvLen (pvBases T x pvVar) x.b)) (fun hb => ?_) (fun hb => ?_)
    · rw [decide_eq_true_eq, List.length_map] at hb
      obtain ⟨e1, e2⟩ := mend_no k x (z := -8) (by unfold mBase; rw [if_pos hb])
      exact ⟨_, rfl, e1, e2⟩
    · rw [decide_eq_false_iff_not, List.length_map] at hb
      obtain ⟨t, et, ht⟩ : ∃ t : Nat, i = (t : Int) + 1 ∧ t < h.bases.length := ⟨i.toNat - 1, by omega, by omega⟩
      subst et
      obtain ⟨a1, a2, a3, a4⟩ := x.apart
      have e1 : (t : Int) + 1 - 1 = (t : Int) := by omega
      refine ⟨_, rfl, _, rfl, a, C, _, _, _, rfl, x.ins, T.cl, T.bases, hf_bases .., _, rfl, _, _, rfl, rfl, d.pb, _, _, t, rfl, rfl, x.b, (by rw [e1]; exact ixN_nat (by rw [List.length_map]; exact ht)), ?_⟩
      refine ⟨(by show 1 ≤ sizeLine; decide), fun r hr => ?_⟩
      have er : mBase h ((t : Int) + 1) j = ({ h with bases := Vbemat.setAt j t h.bases }, [0]) := by unfold mBase; rw [if_neg hb, show ((t : Int) + 1).toNat - 1 = t by omega]
      have k := k
      rw [er] at k
      have hrb : r ≠ d.pb := fun z => by rw [z, upd_same] at hr; cases hr
      have hrH : H r = none := by rw [upd_ne hrb] at hr; exact hr
      have kp : ∀ b o, H b = some o → b ≠ d.pb → (upd (upd H d.pb (.lst ((h.bases.map V.int).set t (.int j)))) r (.lst [V.int 0])) b = some o := fun b o e hb => by
        rw [upd_ne (ne_of_none e hrH), upd_ne hb]; exact e
      refine k r _ d ⟨kp _ _ x.ins (Ne.symm a1), ?_, kp _ _ x.n (Ne.symm x.bn), kp _ _ x.r (Ne.symm x.br), x.rl, fun j' p row e1 e2 => kp _ _ (x.rows j' p row e1 e2) (fun z => x.ns.1 (by rw [← z]; exact List.mem_of_getElem? e1)), x.bn, x.br, x.nr, x.ns⟩ upd_same ⟨fun b o e _ hb _ _ => kp b o e hb, .inl rfl, .inl rfl, .inl rfl⟩
      show _ = _
      rw [upd_ne (Ne.symm hrb)]
      exact upd_same.trans (by rw [set_at])
abbrev sChNeed : Stmt := inClass (top 9) 3
abbrev nChNeed : List Str := ["self", "load", "amount"]
theorem scChNeed : FnScope nChNeed ["self", "load", "amount"] (defScope sChNeed) := ⟨rfl, rfl, rfl, by decide +kernel, rfl, by decide +kernel, by decide +kernel⟩
theorem ok_chNeed {f : Addr} {fd : FuncData} (F : Fun K "change_need" "House.change_need" sChNeed f fd) (B : Bi mg) (T : HC K C) : FnOk P w K mg base CX0 1 f fd ["self", "load", "amount"] (spM2 C (fun c _ => 1 ≤ c) mNeed) := by
  refine F.ok scChNeed (fun vs H Q E h => ?_) (fun cdv A outer s H vs Q E hr h => ?_)
  · obtain ⟨a, d, h, i, j, rfl, _⟩ := h
    rfl
  · obtain ⟨a, d, h, i, j, rfl, x, hg, h1, k⟩ := h
    refine ⟨_, pss_cons (ps_if (pt_cmp (pc_gt (pv 1) (pe_callB call_len_seq rfl B.len bt_len (pa_cons (pe_fld (pv 0) rfl) pa_nil)))) (pss_one (ps_ret (pe_lst (pa_cons (pe_un un_neg pe_int) pa_nil)))) pss_nil)
      (pss_cons (ps_if (pt_cmp (pc_gt (pv 2) (pe_callB (cr_sum rfl) rfl B.sum bt_sum (pa_cons (pe_ix ix_list (pe_fld (pv 0) rfl) (pe_op op_sub (pv 1) pe_int) (fun _ _ => rfl)) pa_nil)))) (pss_one (ps_ret (pe_lst (pa_cons (pe_un un_neg pe_int) pa_nil)))) pss_nil)
      (pss_cons (ps_asg (pv 2) (pg_sub (pe_fld (pv 0) rfl) (pe_op op_sub (pv 1) pe_int) set_list)) (pss_one (ps_ret (pe_lst (pa_cons pe_int pa_nil)))))), ?_⟩
    refine ifS (pvCmp pvVar (pvLen (pvNeeds T x pvVar) x.n)) (fun hb => ?_) (fun hb => ?_)
    · rw [decide_eq_true_eq, List.length_map] at hb
      obtain ⟨e1, e2⟩ := mend_no k x (z := -5) (by unfold mNeed; rw [if_pos hb])
      exact ⟨_, rfl, e1, e2⟩
    · rw [decide_eq_false_iff_not, List.length_map] at hb
      obtain ⟨c, ec, hc⟩ : ∃ c : Nat, i = (c : Int) + 1 ∧ c < h.needs.length := ⟨i.toNat - 1, by omega, by omega⟩
      subst ec
      have hcr : c < h.rooms.length := by rw [← hg.same]; exact hc
      have hcs : c < d.rs.length := by rw [x.rl]; exact hcr
      have e1 : (c : Int) + 1 - 1 = (c : Int) := by omega
      have e2 : ((c : Int) + 1).toNat - 1 = c := by omega
      have hrow : h.rooms[c]? = some h.rooms[c] := List.getElem?_eq_getElem hcr
      have hrs : d.rs[c]? = some d.rs[c] := List.getElem?_eq_getElem hcs
      have har : atI (d.rs.map V.ref) (c : Int) = some (.ref d.rs[c]) := atI_nat (by rw [List.getElem?_map, hrs]; rfl)
      have hra : rowAt h c = h.rooms[c] := by unfold rowAt; rw [hrow]; rfl
      refine ⟨_, rfl, _, rfl, a, C, _, _, _, rfl, x.ins, T.cl, T.rooms, hf_rooms .., _, rfl, _, _, rfl, rfl, d.pr, _, _, _, rfl, rfl, SqL.of x.r, (by rw [e1]; exact har), d.rs[c], h.rooms[c], rfl, SqL.of (x.rows c _ _ hrs hrow), _, _, rfl, rfl, _, rfl, ?_⟩
      refine dec_if (c := h.rooms[c].sum < j) (fun cc => ?_) (fun cc => ?_)
      · obtain ⟨q1, q2⟩ := mend_no k x (z := -7) (by unfold mNeed; rw [if_neg hb, e2, hra, if_pos cc])
        exact ⟨_, rfl, q1, q2⟩
      · obtain ⟨a1, a2, a3, a4⟩ := x.apart
        refine ⟨_, rfl, _, rfl, a, C, _, _, _, rfl, x.ins, T.cl, T.needs, hf_needs .., _, rfl, _, _, rfl, rfl, d.pn, _, _, c, rfl, rfl, x.n, (by rw [e1]; exact ixN_nat (by rw [List.length_map]; exact hc)), ?_⟩
        refine ⟨(by show 1 ≤ sizeLine; decide), fun r hr => ?_⟩
        have er : mNeed h ((c : Int) + 1) j = ({ h with needs := Vbemat.setAt j c h.needs }, [0]) := by unfold mNeed; rw [if_neg hb, e2, hra, if_neg cc]
        have k := k
        rw [er] at k
        have hrb : r ≠ d.pn := fun z => by rw [z, upd_same] at hr; cases hr
        have hrH : H r = none := by rw [upd_ne hrb] at hr; exact hr
        have kp : ∀ b o, H b = some o → b ≠ d.pn → (upd (upd H d.pn (.lst ((h.needs.map V.int).set c (.int j)))) r (.lst [V.int 0])) b = some o := fun b o e hb => by
          rw [upd_ne (ne_of_none e hrH), upd_ne hb]; exact e
        refine k r _ d ⟨kp _ _ x.ins (Ne.symm a2), kp _ _ x.b x.bn, ?_, kp _ _ x.r (Ne.symm x.nr), x.rl, fun j' p row e1 e2 => kp _ _ (x.rows j' p row e1 e2) (fun z => x.ns.2.1 (by rw [← z]; exact List.mem_of_getElem? e1)), x.bn, x.br, x.nr, x.ns⟩ upd_same ⟨fun b o e _ _ hb _ => kp b o e hb, .inl rfl, .inl rfl, .inl rfl⟩
        show _ = _
        rw [upd_ne (Ne.symm hrb)]
        exact upd_same.trans (by rw [set_at])
abbrev sChRoom : Stmt := inClass (top 9) 4
abbrev nChRoom : List Str := ["self", "load", "period", "amount", "changed"]
theorem scChRoom : FnScope nChRoom ["self", "load", "period", "amount"] (defScope sChRoom) := ⟨rfl, rfl, rfl, by decide +kernel, rfl, by decide +kernel, by decide +kernel⟩
theorem ok_chRoom {f : Addr} {fd : FuncData} (F : Fun K "change_room" "House.change_room" sChRoom f fd) (B : Bi mg) (T : HC K C) : FnOk P w K mg base CX0 1 f fd ["self", "load", "period", "amount"] (spM3 C (fun c t _ => 1 ≤ c ∧ 1 ≤ t) mRoom) := by
  refine F.ok scChRoom (fun vs H Q E h => ?_) (fun cdv A outer s H vs Q E hr h => ?_)
  · obtain ⟨a, d, h, i, j, l, rfl, _⟩ := h
    rfl
  · obtain ⟨a, d, h, i, j, l, rfl, x, hg, ⟨h1, h2⟩, k⟩ := h
    have nd := scChRoom.nd
    refine ⟨_, pss_cons (ps_if (pt_cmp (pc_gt (pv 1) (pe_callB call_len_seq rfl B.len bt_len (pa_cons (pe_fld (pv 0) rfl) pa_nil)))) (pss_one (ps_ret (pe_lst (pa_cons (pe_un un_neg pe_int) pa_nil)))) pss_nil)
      (pss_cons (ps_if (pt_cmp (pc_gt (pv 2) (pe_callB call_len_seq rfl B.len bt_len (pa_cons (pe_fld (pv 0) rfl) pa_nil)))) (pss_one (ps_ret (pe_lst (pa_cons (pe_un un_neg pe_int) pa_nil)))) pss_nil)
      (pss_cons (ps_set (i := 4) nd rfl (Or.inl rfl) (pe_callTy call_list_of rfl B.list bt_list (pa_cons (pe_ix ix_list (pe_fld (pv 0) rfl) (pe_op op_sub (pv 1) pe_int) (fun _ _ => rfl)) pa_nil)))
      (pss_cons (ps_asg (pv 3) (pg_sub (pv 4) (pe_op op_sub (pv 2) pe_int) set_list))
      (pss_cons (ps_if (pt_cmp (pc_lt (pe_callB (cr_sum rfl) rfl B.sum bt_sum (pa_cons (pv 4) pa_nil)) (pe_ix ix_list (pe_fld (pv 0) rfl) (pe_op op_sub (pv 1) pe_int) (fun _ _ => rfl)))) (pss_one (ps_ret (pe_lst (pa_cons (pe_un un_neg pe_int) pa_nil)))) pss_nil)
      (pss_cons (ps_asg (pv 4) (pg_sub (pe_fld (pv 0) rfl) (pe_op op_sub (pv 1) pe_int) set_list)) (pss_one (ps_ret (pe_lst (pa_cons pe_int pa_nil))))))))), ?_⟩
    refine ifS (pvCmp pvVar (pvLen (pvNeeds T x pvVar) x.n)) (fun hb => ?_) (fun hb => ?_)
    · rw [decide_eq_true_eq, List.length_map] at hb
      obtain ⟨e1, e2⟩ := mend_no k x (z := -5) (by unfold mRoom; rw [if_pos hb])
      exact ⟨_, rfl, e1, e2⟩
    · rw [decide_eq_false_iff_not, List.length_map] at hb
      refine ifS (pvCmp pvVar (pvLen (pvBases T x pvVar) x.b)) (fun hb2 => ?_) (fun hb2 => ?_)
      · rw [decide_eq_true_eq, List.length_map] at hb2
        obtain ⟨e1, e2⟩ := mend_no k x (z := -8) (by unfold mRoom; rw [if_neg hb, if_pos hb2])
        exact ⟨_, rfl, e1, e2⟩
      · rw [decide_eq_false_iff_not, List.length_map] at hb2
        obtain ⟨c, ec, hc⟩ : ∃ c : Nat, i = (c : Int) + 1 ∧ c < h.needs.length := ⟨i.toNat - 1, by omega, by omega⟩
        obtain ⟨t, et, ht⟩ : ∃ t : Nat, j = (t : Int) + 1 ∧ t < h.bases.length := ⟨j.toNat - 1, by omega, by omega⟩
        subst ec et
        have hcr : c < h.rooms.length := by rw [← hg.same]; exact hc
        have hcs : c < d.rs.length := by rw [x.rl]; exact hcr
        have e1 : (c : Int) + 1 - 1 = (c : Int) := by omega
        have e1t : (t : Int) + 1 - 1 = (t : Int) := by omega
        have e2 : ((c : Int) + 1).toNat - 1 = c := by omega
        have e2t : ((t : Int) + 1).toNat - 1 = t := by omega
        have hrow : h.rooms[c]? = some h.rooms[c] := List.getElem?_eq_getElem hcr
        have hrs : d.rs[c]? = some d.rs[c] := List.getElem?_eq_getElem hcs
        have har : atI (d.rs.map V.ref) (c : Int) = some (.ref d.rs[c]) := atI_nat (by rw [List.getElem?_map, hrs]; rfl)
        have hra : rowAt h c = h.rooms[c] := by unfold rowAt; rw [hrow]; rfl
        have hrl := hg.row hrow
        obtain ⟨a1, a2, a3, a4⟩ := x.apart
        refine ⟨_, rfl, a, C, _, _, _, rfl, x.ins, T.cl, T.rooms, hf_rooms .., _, rfl, _, _, rfl, rfl, d.pr, _, _, _, rfl, rfl, SqL.of x.r, (by rw [e1]; exact har), d.rs[c], _, rfl, .inl (SqL.of (x.rows c _ _ hrs hrow)), fun q hq => ?_⟩
        refine ⟨_, rfl, _, rfl, _, rfl, _, _, rfl, rfl, q, _, _, t, rfl, rfl, upd_same, (by rw [e1t]; exact ixN_nat (by rw [List.length_map, hrl]; exact ht)), ?_⟩
        generalize hch : Vbemat.setAt l t h.rooms[c] = ch
        have s1 : Same H (upd (upd H q (.lst (h.rooms[c].map V.int))) q (.lst ((h.rooms[c].map V.int).set t (.int l)))) := Sm.over (Sm.one hq) hq
        have hq1 : LI (upd (upd H q (.lst (h.rooms[c].map V.int))) q (.lst ((h.rooms[c].map V.int).set t (.int l)))) q ch := upd_same.trans (by rw [set_at, hch])
        generalize (upd (upd H q (.lst (h.rooms[c].map V.int))) q (.lst ((h.rooms[c].map V.int).set t (.int l)))) = H1 at s1 hq1
        have x1 := x.same s1
        refine ⟨_, rfl, q, ch, rfl, SqL.of hq1, _, rfl, a, C, _, _, _, rfl, x1.ins, T.cl, T.needs, hf_needs .., _, rfl, _, _, rfl, rfl, d.pn, _, _, _, rfl, rfl, SqL.of x1.n, (by rw [e1]; exact at_int hc), _, _, rfl, rfl, _, rfl, ?_⟩
        refine dec_if (c := ch.sum < Vbemat.nth h.needs c) (fun cc => ?_) (fun cc => ?_)
        · have er : mRoom h ((c : Int) + 1) ((t : Int) + 1) l = (h, [-7]) := by unfold mRoom; rw [if_neg hb, if_neg hb2, e2, e2t, hra, hch, if_pos cc]
          have k := k
          rw [er] at k
          exact ⟨_, rfl, (by show 1 ≤ sizeLine; decide), fun p hp => k p _ d (x1.same (Sm.one hp)) upd_same (MKeep.same (s1.trans (Sm.one hp)))⟩
        · have er : mRoom h ((c : Int) + 1) ((t : Int) + 1) l = ({ h with rooms := h.rooms.set c ch }, [0]) := by unfold mRoom; rw [if_neg hb, if_neg hb2, e2, e2t, hra, hch, if_neg cc]
          have k := k
          rw [er] at k
          refine ⟨_, rfl, _, rfl, a, C, _, _, _, rfl, x1.ins, T.cl, T.rooms, hf_rooms .., _, rfl, _, _, rfl, rfl, d.pr, _, _, c, rfl, rfl, x1.r, (by rw [e1]; exact ixN_nat (by rw [List.length_map]; exact hcs)), ?_⟩
          refine ⟨(by show 1 ≤ sizeLine; decide), fun r hr => ?_⟩
          have hrb : r ≠ d.pr := fun z => by rw [z, upd_same] at hr; cases hr
          have hrH1 : H1 r = none := by rw [upd_ne hrb] at hr; exact hr
          have kp1 : ∀ b o, H1 b = some o → b ≠ d.pr → (upd (upd H1 d.pr (.lst ((d.rs.map V.ref).set c (.ref q)))) r (.lst [V.int 0])) b = some o := fun b o e hb => by
            rw [upd_ne (ne_of_none e hrH1), upd_ne hb]; exact e
          have kp : ∀ b o, H b = some o → b ≠ d.pr → (upd (upd H1 d.pr (.lst ((d.rs.map V.ref).set c (.ref q)))) r (.lst [V.int 0])) b = some o := fun b o e hb => kp1 b o (s1 b o e) hb
          have hqpr : q ≠ d.pr := (ne_of_none x.r hq).symm
          have hmem : ∀ p, p ∈ d.rs.set c q → p = q ∨ p ∈ d.rs := fun p hp => by
            rcases List.mem_or_eq_of_mem_set hp with z | z
            · exact .inr z
            · exact .inl z
          refine k r _ { d with rs := d.rs.set c q } ⟨kp _ _ x.ins (Ne.symm a3), kp _ _ x.b x.br, kp _ _ x.n x.nr, ?_, by rw [List.length_set, List.length_set]; exact x.rl, fun j' p row q1 q2 => ?_, x.bn, x.br, x.nr, fun z => ?_, fun z => ?_, fun z => ?_⟩ upd_same ⟨fun b o e _ _ _ hb => kp b o e hb, .inl rfl, .inl rfl, .inl rfl⟩
          · show _ = _
            rw [upd_ne (Ne.symm hrb)]
            exact upd_same.trans (by rw [List.map_set])
          · by_cases ej : j' = c
            · subst ej
              rw [List.getElem?_set_self hcs] at q1
              rw [List.getElem?_set_self hcr] at q2
              cases q1; cases q2
              exact kp1 _ _ hq1 hqpr
            · rw [List.getElem?_set_ne (Ne.symm ej)] at q1 q2
              exact kp _ _ (x.rows j' p row q1 q2) (fun z => x.ns.2.2 (by rw [← z]; exact List.mem_of_getElem? q1))
          · rcases hmem _ z with z | z
            · exact absurd z (ne_of_none x.b hq)
            · exact x.ns.1 z
          · rcases hmem _ z with z | z
            · exact absurd z (ne_of_none x.n hq)
            · exact x.ns.2.1 z
          · rcases hmem _ z with z | z
            · exact absurd z (ne_of_none x.r hq)
            · exact x.ns.2.2 z
end
end Hs
end
section
set_option Elab.async false
set_option linter.all false
set_option maxRecDepth 100000
set_option maxHeartbeats 4000000
namespace Hs
open PySem PySem.Spec
open PyProof.Rows hiding St
open L2
theorem cut_drop1 {xs : List Int} : cutV (xs.map V.int) (some 1) none = (xs.drop 1).map V.int := by
  unfold cutV HT.sIx
  simp only [List.length_map]
  rw [if_neg (by decide), List.map_drop]
  cases xs with
  | nil => rfl
  | cons a r =>
    have e : min (1 : Int).toNat (a :: r).length = 1 := by show min 1 (r.length + 1) = 1; omega
    rw [e, List.take_of_length_le (by rw [List.length_drop, List.length_map]; omega)]
structure Met (P : Program) (w : World) (K : PySem.W.Frag) (mg : Str → Option Value) (base : Heap) (C : Addr) (k : Nat) (m : Str) (ps : List Str) (sp : Sp) : Prop where
  ex : ∃ (f : Addr) (fd : FuncData), Meth K C m f ∧ Binds K fd ps [] ∧ FnOk P w K mg base CX0 k f fd ps sp
theorem pmeth {X : Cx} {C : Addr} {k : Nat} {m : Str} {ps : List Str} {sp : Sp} {o e : Expr} {es : List Expr} {ta : TE} {t : TA} {apos pos : Pos} {pl : Sem Bool} (he : PE X o ta) (c : Cls X.K C) (M : Met X.prog X.w X.K X.mg X.base C k m ps sp) (hr : Room k X.A) (ha : PA X (e :: es) t)
    (hst : starEach (e :: es) X.env = (false, eval e X.env) :: starEach es X.env := by rfl) (hpl : (backTo pos (starEach es X.env)).any (·.1) = false := by rfl)
    (ht : eval (.Call (.Attribute o m apos) (e :: es) [] pos) X.env = (do
      let ov ← eval o X.env
      standAt apos.atName
      let (f, first) ← holding [ov] (getMethod ov m pl)
      callWith pos f first (backTo pos (starEach (e :: es) X.env)) (backToKw pos (keywordEach [] X.env))) := by rfl) :
    PE X (.Call (.Attribute o m apos) (e :: es) [] pos) (tMeth C m sp [] E0 ta t) := by
  obtain ⟨f, fd, h1, h2, h3⟩ := M.ex
  exact pe_meth he c h1 h3 hr h2 .nil pass0 ha hst hpl ht
theorem pmeth0 {X : Cx} {C : Addr} {k : Nat} {m : Str} {ps : List Str} {sp : Sp} {o : Expr} {ta : TE} {apos pos : Pos} {pl : Sem Bool} (he : PE X o ta) (c : Cls X.K C) (M : Met X.prog X.w X.K X.mg X.base C k m ps sp) (hr : Room k X.A)
    (ht : eval (.Call (.Attribute o m apos) [] [] pos) X.env = (do
      let ov ← eval o X.env
      standAt apos.atName
      let (f, first) ← holding [ov] (getMethod ov m pl)
      callWith pos f first (backTo pos (starEach [] X.env)) (backToKw pos (keywordEach [] X.env))) := by rfl) :
    PE X (.Call (.Attribute o m apos) [] [] pos) (tMeth C m sp [] E0 ta tNil) := by
  obtain ⟨f, fd, h1, h2, h3⟩ := M.ex
  exact pe_meth0 he c h1 h3 hr h2 .nil pass0 ht
section
variable {P : Program} {w : World} {K : PySem.W.Frag} {mg : Str → Option Value} {base : Heap} {C : Addr}
abbrev sAddLoad : Stmt := inClass (top 9) 2
abbrev nAddLoad : List Str := ["self", "need", "rooms"]
theorem scAddLoad : FnScope nAddLoad ["self", "need", "rooms"] (defScope sAddLoad) := ⟨rfl, rfl, rfl, by decide +kernel, rfl, by decide +kernel, by decide +kernel⟩
theorem ok_addLoad {f : Addr} {fd : FuncData} (F : Fun K "add_load" "House.add_load" sAddLoad f fd) (B : Bi mg) (T : HC K C) : FnOk P w K mg base CX0 1 f fd ["self", "need", "rooms"] (spMIL C (fun l => l.length ≤ 8) mLoad) := by
  refine F.ok scAddLoad (fun vs H Q E h => ?_) (fun cdv A outer s H vs Q E hr h => ?_)
  · obtain ⟨a, d, h, i, p, l, rfl, _⟩ := h
    rfl
  · obtain ⟨a, d, h, i, p, l, rfl, hp, hpn, x, hg, hl, k⟩ := h
    refine ⟨_, pss_cons (ps_if (PW.pt (pw_or (pt_cmp (pc_neI (pe_callB call_len_seq rfl B.len bt_len (pa_cons (pv 2) pa_nil)) (pe_callB call_len_seq rfl B.len bt_len (pa_cons (pe_fld (pv 0) rfl) pa_nil)))) (pw_or1 (pt_cmp (pc_lt (pe_callB (cr_sum rfl) rfl B.sum bt_sum (pa_cons (pv 2) pa_nil)) (pv 1)))))) (pss_one (ps_ret (pe_lst (pa_cons (pe_un un_neg pe_int) pa_nil)))) pss_nil)
      (pss_cons (ps_if (pt_cmp (pc_eqI (pe_callB call_len_seq rfl B.len bt_len (pa_cons (pe_fld (pv 0) rfl) pa_nil)) pe_int)) (pss_one (ps_ret (pe_lst (pa_cons (pe_un un_neg pe_int) pa_nil)))) pss_nil)
      (pss_cons (ps_expr (pe_bm PySem.F.plainAttrs_list PySem.F.slot_list_append PySem.F.type_list_append mt_append (pe_fld (pv 0) rfl) (pa_cons (pv 1) pa_nil)))
      (pss_cons (ps_expr (pe_bm PySem.F.plainAttrs_list PySem.F.slot_list_append PySem.F.type_list_append mt_append (pe_fld (pv 0) rfl) (pa_cons (pe_callTy call_list_of rfl B.list bt_list (pa_cons (pv 2) pa_nil)) pa_nil)))
      (pss_one (ps_ret (pe_lst (pa_cons pe_int (pa_cons (pe_callB call_len_seq rfl B.len bt_len (pa_cons (pe_fld (pv 0) rfl) pa_nil)) pa_nil)))))))), ?_⟩
    refine ifS (pvOr (pvCmp (pvLen pvVar hp) (pvLen (pvBases T x pvVar) x.b)) (fun _ => pvCmp (fun _ q => ⟨_, rfl, p, l, rfl, SqL.of hp, q⟩) pvVar)) (fun hb => ?_) (fun hb => ?_)
    · rw [Bool.or_eq_true, Bool.not_eq_true', decide_eq_false_iff_not, decide_eq_true_eq, List.length_map, List.length_map] at hb
      obtain ⟨e1, e2⟩ := mend_no k x (z := -7) (by
        unfold mLoad
        rw [if_pos (by rcases hb with z | z
                       · exact .inl (by omega)
                       · exact .inr z)])
      exact ⟨_, rfl, e1, e2⟩
    · rw [Bool.or_eq_false_iff, Bool.not_eq_false', decide_eq_true_eq, decide_eq_false_iff_not, List.length_map, List.length_map] at hb
      have c1 : ¬ (l.length ≠ h.bases.length ∨ l.sum < i) := fun z => by
        rcases z with z | z
        · omega
        · exact hb.2 z
      refine ifS (pvCmp (pvLen (pvNeeds T x pvVar) x.n) pvC) (fun hb2 => ?_) (fun hb2 => ?_)
      · rw [decide_eq_true_eq, List.length_map] at hb2
        obtain ⟨e1, e2⟩ := mend_no k x (z := -4) (by unfold mLoad; rw [if_neg c1, if_pos (by omega)])
        exact ⟨_, rfl, e1, e2⟩
      · rw [decide_eq_false_iff_not, List.length_map] at hb2
        have c2 : ¬ h.needs.length = 8 := by omega
        have er : mLoad h i l = ({ h with needs := h.needs ++ [i], rooms := h.rooms ++ [l] }, [0, (h.needs.length : Int) + 1]) := by unfold mLoad; rw [if_neg c1, if_neg c2]
        have k := k
        rw [er] at k
        have hn8 := hg.n8
        obtain ⟨a1, a2, a3, a4⟩ := x.apart
        refine ⟨_, rfl, a, C, _, _, _, rfl, x.ins, T.cl, T.needs, hf_needs .., .inl ⟨rfl, _, SqL.of x.n⟩, _, rfl, d.pn, _, _, rfl, rfl, x.n, (by rw [List.length_map]; exact Nat.lt_of_le_of_lt (show h.needs.length ≤ 1000 by omega) (by decide)), ?_⟩
        have k1 : ∀ b o, H b = some o → b ≠ d.pn → (upd H d.pn (.lst (h.needs.map V.int ++ [V.int i]))) b = some o := fun b o e hb => by rw [upd_ne hb]; exact e
        have n1 : (upd H d.pn (.lst (h.needs.map V.int ++ [V.int i]))) d.pn = some (.lst ((h.needs ++ [i]).map V.int)) := upd_same.trans (by rw [List.map_append]; rfl)
        have f1 : ∀ b, (upd H d.pn (.lst (h.needs.map V.int ++ [V.int i]))) b = none → H b = none := fun b e => by
          by_cases z : b = d.pn
          · rw [z, upd_same] at e; cases e
          · rw [upd_ne z] at e; exact e
        generalize (upd H d.pn (.lst (h.needs.map V.int ++ [V.int i]))) = H1 at k1 n1 f1
        have i1 := k1 _ _ x.ins (Ne.symm a2)
        have r1 := k1 _ _ x.r (Ne.symm x.nr)
        have b1 := k1 _ _ x.b x.bn
        have hp1 := k1 _ _ hp hpn
        refine ⟨_, rfl, a, C, _, _, _, rfl, i1, T.cl, T.rooms, hf_rooms .., .inl ⟨rfl, _, SqL.of r1⟩, _, rfl, p, _, rfl, .inl (SqL.of hp1), fun q hq => ?_⟩
        have hqH : H q = none := f1 q hq
        have hqr : d.pr ≠ q := ne_of_none r1 hq
        refine ⟨d.pr, _, _, rfl, rfl, (by rw [upd_ne hqr]; exact r1), (by rw [List.length_map, x.rl, ← hg.same]; exact Nat.lt_of_le_of_lt (show h.needs.length ≤ 1000 by omega) (by decide)), ?_⟩
        have k2 : ∀ b o, H1 b = some o → b ≠ d.pr → (upd (upd H1 q (.lst (l.map V.int))) d.pr (.lst (d.rs.map V.ref ++ [V.ref q]))) b = some o := fun b o e hb => by rw [upd_ne hb, upd_ne (ne_of_none e hq)]; exact e
        have n2 : (upd (upd H1 q (.lst (l.map V.int))) d.pr (.lst (d.rs.map V.ref ++ [V.ref q]))) d.pr = some (.lst ((d.rs ++ [q]).map V.ref)) := upd_same.trans (by rw [List.map_append]; rfl)
        have q2 : (upd (upd H1 q (.lst (l.map V.int))) d.pr (.lst (d.rs.map V.ref ++ [V.ref q]))) q = some (.lst (l.map V.int)) := by rw [upd_ne (Ne.symm hqr)]; exact upd_same
        generalize (upd (upd H1 q (.lst (l.map V.int))) d.pr (.lst (d.rs.map V.ref ++ [V.ref q]))) = H2 at k2 n2 q2
        have i2 := k2 _ _ i1 (Ne.symm a3)
        have nn2 := k2 _ _ n1 x.nr
        have b2 := k2 _ _ b1 x.br
        have kH : ∀ b o, H b = some o → b ≠ d.pn → b ≠ d.pr → H2 b = some o := fun b o e z1 z2 => k2 b o (k1 b o e z1) z2
        refine ⟨_, rfl, a, C, _, _, _, rfl, i2, T.cl, T.needs, hf_needs .., d.pn, _, rfl, .inl (SqL.of nn2), (by show 2 ≤ sizeLine; decide), fun r hr => ?_⟩
        have s3 := Sm.one (o := .lst [V.int 0, V.int (((h.needs ++ [i]).map V.int).length : Nat)]) hr
        refine k r _ { d with rs := d.rs ++ [q] } ⟨s3 _ _ i2, s3 _ _ b2, s3 _ _ nn2, s3 _ _ n2, by rw [List.length_append, List.length_append, x.rl]; rfl, fun j' p' row e1 e2 => ?_, x.bn, x.br, x.nr, fun z => ?_, fun z => ?_, fun z => ?_⟩ (upd_same.trans ?_) ⟨fun b o e _ _ z1 z2 => s3 _ _ (kH b o e z1 z2), .inl rfl, .inl rfl, .inl rfl⟩
        · by_cases hj : j' < d.rs.length
          · rw [List.getElem?_append_left hj] at e1
            rw [List.getElem?_append_left (by rw [← x.rl]; exact hj)] at e2
            have hm := List.mem_of_getElem? e1
            exact s3 _ _ (kH _ _ (x.rows j' p' row e1 e2) (fun z => x.ns.2.1 (by rw [← z]; exact hm)) (fun z => x.ns.2.2 (by rw [← z]; exact hm)))
          · have ej : j' = d.rs.length := by
              have := (List.getElem?_eq_some_iff.mp e1).1
              rw [List.length_append] at this
              have : j' < d.rs.length + 1 := this
              omega
            subst ej
            rw [List.getElem?_append_right (Nat.le_refl _), Nat.sub_self] at e1
            rw [x.rl, List.getElem?_append_right (Nat.le_refl _), Nat.sub_self] at e2
            cases e1; cases e2
            exact s3 _ _ q2
        · rcases List.mem_append.mp z with z | z
          · exact x.ns.1 z
          · exact absurd (List.mem_singleton.mp z) (ne_of_none x.b hqH)
        · rcases List.mem_append.mp z with z | z
          · exact x.ns.2.1 z
          · exact absurd (List.mem_singleton.mp z) (ne_of_none x.n hqH)
        · rcases List.mem_append.mp z with z | z
          · exact x.ns.2.2 z
          · exact absurd (List.mem_singleton.mp z) (ne_of_none x.r hqH)
        · rw [List.length_map, List.length_append]
          rfl
abbrev sAddPer : Stmt := inClass (top 9) 6
abbrev nAddPer : List Str := ["self", "rooms"]
theorem scAddPer : FnScope nAddPer ["self"] (defScope sAddPer) := ⟨rfl, rfl, rfl, by decide +kernel, rfl, by decide +kernel, by decide +kernel⟩
def NewRows (H0 : Hp) (D : Addr) (f : List Int → List Int) (rooms : List (List Int)) (i : Nat) (acc : List V) (H : Hp) : Prop :=
  ∃ ps : List Addr, acc = ps.map V.ref ∧ ps.length = i ∧ (∀ (j : Nat) (p : Addr) (row : List Int), ps[j]? = some p → rooms[j]? = some row → LI H p (f row)) ∧ D ∉ ps ∧ ∀ p ∈ ps, H0 p = none
theorem NewRows.keep {H0 : Hp} {D : Addr} {f : List Int → List Int} {rooms : List (List Int)} {i : Nat} {acc : List V} {H H' : Hp} (x : NewRows H0 D f rooms i acc H) (kk : ∀ b o, b ≠ D → H b = some o → H' b = some o) : NewRows H0 D f rooms i acc H' := by
  obtain ⟨ps, e1, e2, e3, e4, e5⟩ := x
  exact ⟨ps, e1, e2, fun j p row h1 h2 => kk _ _ (fun z => e4 (by rw [← z]; exact List.mem_of_getElem? h1)) (e3 j p row h1 h2), e4, e5⟩
theorem NewRows.len {H0 : Hp} {D : Addr} {f : List Int → List Int} {rooms : List (List Int)} {i : Nat} {acc : List V} {H : Hp} (x : NewRows H0 D f rooms i acc H) : acc.length = i := by
  obtain ⟨ps, rfl, e2, _⟩ := x
  rw [List.length_map]; exact e2
theorem NewRows.snoc {H0 : Hp} {D q : Addr} {f : List Int → List Int} {rooms : List (List Int)} {i : Nat} {acc : List V} {H : Hp} {row : List Int} (x : NewRows H0 D f rooms i acc H) (hr : rooms[i]? = some row) (hq : LI H q (f row)) (hD : q ≠ D) (h0 : H0 q = none) : NewRows H0 D f rooms (i + 1) (acc ++ [.ref q]) H := by
  obtain ⟨ps, rfl, e2, e3, e4, e5⟩ := x
  refine ⟨ps ++ [q], by rw [List.map_append]; rfl, by rw [List.length_append, e2]; rfl, fun j p row' h1 h2 => ?_, fun z => ?_, fun p hp => ?_⟩
  · by_cases hj : j < ps.length
    · rw [List.getElem?_append_left hj] at h1
      exact e3 j p row' h1 h2
    · have ej : j = ps.length := by
        have := (List.getElem?_eq_some_iff.mp h1).1
        rw [List.length_append] at this
        have : j < ps.length + 1 := this
        omega
      subst ej
      rw [List.getElem?_append_right (Nat.le_refl _), Nat.sub_self] at h1
      rw [e2, hr] at h2
      cases h1; cases h2
      exact hq
  · rcases List.mem_append.mp z with z | z
    · exact e4 z
    · exact hD (List.mem_singleton.mp z).symm
  · rcases List.mem_append.mp hp with z | z
    · exact e5 p z
    · rw [List.mem_singleton.mp z]; exact h0
theorem ok_addPer {f : Addr} {fd : FuncData} (F : Fun K "add_period" "House.add_period" sAddPer f fd) (B : Bi mg) (T : HC K C) : FnOk P w K mg base CX0 1 f fd ["self"] (spM0 C mAdd) := by
  refine F.ok scAddPer (fun vs H Q E h => ?_) (fun cdv A outer s H vs Q E hr h => ?_)
  · obtain ⟨a, d, h, rfl, _⟩ := h
    rfl
  · obtain ⟨a, d, h, rfl, x, hg, k⟩ := h
    have nd := scAddPer.nd
    refine ⟨_, pss_cons (ps_if (pt_cmp (pc_eqI (pe_callB call_len_seq rfl B.len bt_len (pa_cons (pe_fld (pv 0) rfl) pa_nil)) pe_int)) (pss_one (ps_ret (pe_lst (pa_cons (pe_un un_neg pe_int) pa_nil)))) pss_nil)
      (pss_cons (ps_expr (pe_bm PySem.F.plainAttrs_list PySem.F.slot_list_append PySem.F.type_list_append mt_append (pe_fld (pv 0) rfl) (pa_cons pe_int pa_nil)))
      (pss_cons (ps_fld (pv 0) (pe_lc (own := [("rooms", 1)]) rfl nd (pi_list (pe_fld (pv 0) rfl)) (blkOk_by (show blkC nAddPer (defScope sAddPer) _ _ = true by decide +kernel)) (fun _ _ _ _ _ => pg_name (i := 1) nd rfl (Or.inl rfl)) (fun _ _ _ _ _ => pts_nil)
        (fun _ _ _ _ _ => pe_op op_cat (pv 1) (pe_lst (pa_cons pe_int pa_nil)))) rfl)
      (pss_one (ps_ret (pe_lst (pa_cons pe_int pa_nil)))))), ?_⟩
    refine ifS (pvCmp (pvLen (pvBases T x pvVar) x.b) pvC) (fun hb => ?_) (fun hb => ?_)
    · rw [decide_eq_true_eq, List.length_map] at hb
      obtain ⟨e1, e2⟩ := mend_no k x (z := -4) (by unfold mAdd; rw [if_pos (by omega)])
      exact ⟨_, rfl, e1, e2⟩
    · rw [decide_eq_false_iff_not, List.length_map] at hb
      have er : mAdd h = ({ h with bases := h.bases ++ [0], rooms := h.rooms.map fun r => r ++ [0] }, [0]) := by unfold mAdd; rw [if_neg (by omega)]
      have k := k
      rw [er] at k
      have hb8 := hg.b8
      have hn8 := hg.n8
      obtain ⟨a1, a2, a3, a4⟩ := x.apart
      refine ⟨_, rfl, a, C, _, _, _, rfl, x.ins, T.cl, T.bases, hf_bases .., .inl ⟨rfl, _, SqL.of x.b⟩, d.pb, _, _, rfl, rfl, x.b, (by rw [List.length_map]; exact Nat.lt_of_le_of_lt (show h.bases.length ≤ 1000 by omega) (by decide)), ?_⟩
      have k1 : ∀ b o, H b = some o → b ≠ d.pb → (upd H d.pb (.lst (h.bases.map V.int ++ [V.int 0]))) b = some o := fun b o e hb => by rw [upd_ne hb]; exact e
      have n1 : (upd H d.pb (.lst (h.bases.map V.int ++ [V.int 0]))) d.pb = some (.lst ((h.bases ++ [0]).map V.int)) := upd_same.trans (by rw [List.map_append]; rfl)
      have f1 : ∀ b, (upd H d.pb (.lst (h.bases.map V.int ++ [V.int 0]))) b = none → H b = none := fun b e => by
        by_cases z : b = d.pb
        · rw [z, upd_same] at e; cases e
        · rw [upd_ne z] at e; exact e
      generalize (upd H d.pb (.lst (h.bases.map V.int ++ [V.int 0]))) = H1 at k1 n1 f1
      have i1 := k1 _ _ x.ins (Ne.symm a1)
      have r1 := k1 _ _ x.r (Ne.symm x.br)
      have nn1 := k1 _ _ x.n (Ne.symm x.bn)
      have rows1 : ∀ (j : Nat) (p : Addr) (row : List Int), d.rs[j]? = some p → h.rooms[j]? = some row → LI H1 p row := fun j p row e1 e2 => k1 _ _ (x.rows j p row e1 e2) (fun z => x.ns.1 (by rw [← z]; exact List.mem_of_getElem? e1))
      refine ⟨_, rfl, a, C, _, _, _, rfl, i1, T.cl, T.rooms, hf_rooms .., d.pr, rfl, ⟨_, SqL.of r1⟩, fun D hD => lcG hD wk_list (by rw [List.length_map, x.rl, ← hg.same]; exact line_le (by omega)) (fun H' s' => SqL.of (s' _ _ r1)) (NewRows H1 D (fun r => r ++ [0]) h.rooms) ⟨[], rfl, rfl, fun j _ _ e => by simp at e, by simp, by simp⟩ (fun i acc H H' e kk => e.keep kk) (fun i acc H e => e.len) ?_ ?_⟩
      · rintro i y H2 acc Q' N hi s2 hy hG hDl k3
        obtain ⟨p, hp, rfl⟩ := ref_at hy
        have hir : i < h.rooms.length := by rw [← x.rl]; exact (List.getElem?_eq_some_iff.mp hp).1
        have hrow : h.rooms[i]? = some h.rooms[i] := List.getElem?_eq_getElem hir
        have hp2 := s2 _ _ (rows1 i p _ hp hrow)
        have hrl := hg.row hrow
        refine ⟨rfl, iteT (B := N H2) ?_⟩
        refine ⟨_, rfl, (by show 1 ≤ sizeLine; decide), fun l1 hl1 => ⟨p, l1, _, _, rfl, rfl, Sm.one hl1 _ _ hp2, upd_same, ?_, fun q hq => ?_⟩⟩
        · rw [List.length_map, hrl]; exact line_le (by show _ + 1 ≤ _; omega)
        · have s3 := Sm.add (o := .lst (h.rooms[i].map V.int ++ [V.int 0])) (Sm.one (o := .lst [V.int 0]) hl1) hq
          have hqD : q ≠ D := fun z => by
            have := Sm.one (o := .lst [V.int 0]) hl1 _ _ hDl
            rw [z, this] at hq; cases hq
          have hq0 : H1 q = none := (s2.trans (Sm.one hl1)).free hq
          exact k3 _ _ s3 ((hG.keep fun b o _ e => s3 b o e).snoc hrow (upd_same.trans (by rw [List.map_append]; rfl)) hqD hq0)
      · rintro H2 acc s2 hDl ⟨ps, rfl, e2, e3, e4, e5⟩
        rw [List.length_map] at e2
        have i2 := s2 _ _ i1
        refine ⟨_, rfl, a, C, _, _, rfl, i2, T.cl, T.rooms, (by show 5 < 1000; decide), ?_⟩
        refine ⟨(by show 1 ≤ sizeLine; decide), fun r hr => ?_⟩
        have hDa : D ≠ a := (ne_of_none i1 hD).symm
        have k3 : ∀ b o, H2 b = some o → b ≠ a → (upd (upd H2 a (.ins C d.dx (putF "rooms" (.ref D) (hfs h.begun d.pb d.pn d.pr h.passed)))) r (.lst [V.int 0])) b = some o := fun b o e hb => by
          have hrb : (upd H2 a (.ins C d.dx (putF "rooms" (.ref D) (hfs h.begun d.pb d.pn d.pr h.passed)))) b = some o := by rw [upd_ne hb]; exact e
          rw [upd_ne (ne_of_none hrb hr)]; exact hrb
        have i3 : (upd (upd H2 a (.ins C d.dx (putF "rooms" (.ref D) (hfs h.begun d.pb d.pn d.pr h.passed)))) r (.lst [V.int 0])) a = some (.ins C d.dx (hfs h.begun d.pb d.pn D h.passed)) := by
          rw [upd_ne (ne_of_none upd_same hr)]; exact upd_same.trans rfl
        have hDH : H D = none := f1 D hD
        refine k r _ { d with pr := D, rs := ps } ⟨i3, k3 _ _ (s2 _ _ n1) a1, k3 _ _ (s2 _ _ nn1) a2, k3 _ _ hDl hDa, by rw [e2, List.length_map]; exact x.rl, fun j p row q1 q2 => ?_, x.bn, ne_of_none x.b hDH, ne_of_none x.n hDH, fun z => ?_, fun z => ?_, e4⟩ upd_same ⟨fun b o e z1 z2 _ _ => k3 _ _ (s2 _ _ (k1 b o e z2)) z1, .inl rfl, .inl rfl, .inr hDH⟩
        · rw [List.getElem?_map] at q2
          obtain ⟨row0, hr0, er0⟩ := Option.map_eq_some_iff.mp q2
          have hpa : p ≠ a := fun z => by
            have := e5 p (List.mem_of_getElem? q1)
            rw [z, i1] at this; cases this
          have := k3 _ _ (e3 j p row0 q1 hr0) hpa
          rw [← er0]; exact this
        · have := e5 _ z
          rw [n1] at this; cases this
        · have := e5 _ z
          rw [nn1] at this; cases this
end
end Hs
end
section
set_option Elab.async false
set_option linter.all false
set_option maxRecDepth 100000
set_option maxHeartbeats 4000000
namespace Hs
open PySem PySem.Spec
open PyProof.Rows hiding St
open L2
section
variable {P : Program} {w : World} {K : PySem.W.Frag} {mg : Str → Option Value} {base : Heap} {C : Addr}
abbrev sCanGet : Stmt := inClass (top 9) 8
abbrev nCanGet : List Str := ["self", "gets", "got", "need", "rooms"]
theorem scCanGet : FnScope nCanGet ["self", "gets"] (defScope sCanGet) := ⟨rfl, rfl, rfl, by decide +kernel, rfl, by decide +kernel, by decide +kernel⟩
def spCanGet (C : Addr) : Sp := fun vs H Q _ => ∃ (a : Addr) (d : HAd) (h : HS) (p : Addr) (l : List Int), vs = [.ref a, .ref p] ∧ LI H p l ∧ HAt C H a d h ∧ HGood h ∧ h.bases.length ≠ 0 ∧ ∀ H' : Hp, Same H H' → Q (.bl (canGet h l)) H'
theorem ok_canGet {f : Addr} {fd : FuncData} (F : Fun K "can_get" "House.can_get" sCanGet f fd) (B : Bi mg) (T : HC K C) : FnOk P w K mg base CX0 1 f fd ["self", "gets"] (spCanGet C) := by
  refine F.ok scCanGet (fun vs H Q E h => ?_) (fun cdv A outer s H vs Q E hr h => ?_)
  · obtain ⟨a, d, h, p, l, rfl, _⟩ := h
    rfl
  · obtain ⟨a, d, h, p, l, rfl, hp, x, hg, hb0, k⟩ := h
    have nd := scCanGet.nd
    refine ⟨_, pss_cons (ps_if (pt_cmp (pc_neI (pe_callB call_len_seq rfl B.len bt_len (pa_cons (pv 1) pa_nil)) (pe_callB call_len_seq rfl B.len bt_len (pa_cons (pe_fld (pv 0) rfl) pa_nil)))) (pss_one (ps_ret pe_bl)) pss_nil)
      (pss_cons (ps_for PassesOwn.never rfl (pi_zip3 rfl B.zip (pa_cons (pv 1) (pa_cons (pe_fld (pv 0) rfl) (pa_cons (pe_fld (pv 0) rfl) pa_nil)))) (pg_triple (K := K) (i := 2) (j := 3) (k := 4) rfl rfl nd rfl rfl rfl (Or.inl rfl) (Or.inl rfl) (Or.inl rfl))
        (pss_one (ps_if (PW.pt (pw_or (pt_cmp (pc_gt (pv 2) (pe_ix ix_list (pv 4) pe_int (fun _ _ => rfl)))) (pw_or (pt_cmp (pc_gt (pv 2) (pv 3))) (pw_or1 (pt_cmp (pc_gt (pe_op op_sub (pv 3) (pv 2)) (pe_callB (cr_sum rfl) rfl B.sum bt_sum (pa_cons (pe_slice sl_list (pv 4) (po_some pe_int) po_none) pa_nil))))))))
          (pss_one (ps_ret pe_bl)) pss_nil)))
      (pss_one (ps_ret pe_bl))), ?_⟩
    refine ifS (pvCmp (pvLen pvVar hp) (pvLen (pvNeeds T x pvVar) x.n)) (fun hb => ?_) (fun hb => ?_)
    · rw [Bool.not_eq_true', decide_eq_false_iff_not, List.length_map, List.length_map] at hb
      have e : canGet h l = false := by unfold canGet; rw [decide_eq_false (by omega), Bool.false_and]
      have := k H (Same.refl H)
      rw [e] at this
      exact this
    · rw [Bool.not_eq_false', decide_eq_true_eq, List.length_map, List.length_map] at hb
      have hlen : l.length = h.needs.length := by omega
      have bad : ∀ (i : Nat) (got : Int) (ld : Vbemat.Load), l[i]? = some got → (loadsOf h)[i]? = some ld → getOk got ld.need ld.rooms = false → canGet h l = false := fun i got ld e1 e2 e3 => by
        unfold canGet
        rw [Bool.and_eq_false_iff]
        right
        rw [List.all_eq_false]
        refine ⟨(got, ld), List.mem_of_getElem? (List.getElem?_zip_eq_some.mpr ⟨e1, e2⟩), ?_⟩
        rw [e3]; exact Bool.false_ne_true
      refine ⟨_, rfl, _, rfl, a, C, _, _, _, rfl, x.ins, T.cl, T.needs, hf_needs .., _, rfl, a, C, _, _, _, rfl, x.ins, T.cl, T.rooms, hf_rooms .., ?_⟩
      refine ⟨p, d.pn, d.pr, _, _, _, rfl, SqL.of hp, SqL.of x.n, SqL.of x.r, forW wk_zip3 (fun i σ H' => ∃ v2 v3 v4 : Option V, σ = [some (.ref a), some (.ref p), v2, v3, v4] ∧ Same H H' ∧ ∀ j got ld, j < i → l[j]? = some got → (loadsOf h)[j]? = some ld → getOk got ld.need ld.rooms = true)
        ⟨none, none, none, rfl, Same.refl H, fun j _ _ hj => absurd hj (Nat.not_lt_zero j)⟩ (fun _ _ H' _ ⟨_, _, _, _, s, _⟩ => ⟨SqL.of (s _ _ hp), SqL.of (x.same s).n, SqL.of (x.same s).r⟩) ?_ ?_⟩
      · rintro i y σ H1 H2 hi ⟨v2, v3, v4, rfl, s1, hok⟩ s2 ⟨T1, y1, y2, y3, rfl, hT, hy1, hy2, hy3⟩
        obtain ⟨got, hgot, rfl⟩ := int_at hy1
        obtain ⟨need, hneed, rfl⟩ := int_at hy2
        obtain ⟨rp, hrp, rfl⟩ := ref_at hy3
        have hir : i < h.rooms.length := by rw [← x.rl]; exact (List.getElem?_eq_some_iff.mp hrp).1
        obtain ⟨row, hrow⟩ : ∃ row, h.rooms[i]? = some row := ⟨_, List.getElem?_eq_getElem hir⟩
        have hld := loads_at hneed hrow
        have s12 := s1.trans s2
        have hr2 : LI H2 rp row := s12 _ _ (x.rows i rp row hrp hrow)
        have hrl := hg.row hrow
        have hat : atI (row.map V.int) 0 = some (.int (Vbemat.nth row 0)) := at_int (j := 0) (by omega)
        have isbad : ∀ H3, Same H2 H3 → getOk got need row = false → Q (.bl false) H3 := fun H3 s3 e => by
          have := k H3 (s12.trans s3)
          rw [bad i got _ hgot hld e] at this
          exact this
        refine gTriple hT ?_
        refine ⟨_, rfl, _, rfl, rp, _, _, _, rfl, rfl, SqL.of hr2, hat, _, _, rfl, rfl, _, rfl, ?_⟩
        refine dec_if (c := Vbemat.nth row 0 < got) (fun c1 => ?_) (fun c1 => ?_)
        · refine iteT ?_
          exact isbad H2 (Same.refl _) (by unfold getOk; rw [decide_eq_false (by omega)]; rfl)
        refine ⟨_, rfl, _, rfl, _, _, rfl, rfl, _, rfl, ?_⟩
        refine dec_if (c := need < got) (fun c2 => ?_) (fun c2 => ?_)
        · refine iteT ?_
          exact isbad H2 (Same.refl _) (by unfold getOk; rw [decide_eq_false (show ¬ got ≤ need by omega), Bool.and_false, Bool.false_and])
        refine ⟨_, rfl, _, rfl, _, _, rfl, rfl, _, rfl, _, rfl, rp, _, rfl, SqL.of hr2, fun q hq => ?_⟩
        have hq2 : LI (upd H2 q (.lst (cutV (row.map V.int) (some 1) none))) q (row.drop 1) := upd_same.trans (by rw [cut_drop1])
        refine ⟨q, row.drop 1, rfl, SqL.of hq2, _, _, rfl, rfl, _, rfl, ?_⟩
        refine dec_if (c := (row.drop 1).sum < need - got) (fun c3 => ?_) (fun c3 => ?_)
        · exact isbad _ (Sm.one hq) (by unfold getOk; rw [decide_eq_false (show ¬ need - got ≤ (row.drop 1).sum by omega), Bool.and_false])
        · refine ⟨_, _, _, rfl, s12.trans (Sm.one hq), fun j got' ld' hj e1 e2 => ?_⟩
          by_cases hji : j < i
          · exact hok j got' ld' hji e1 e2
          · have e : j = i := by omega
            subst e
            rw [hgot] at e1; rw [hld] at e2
            cases e1; cases e2
            unfold getOk
            rw [decide_eq_true (show got ≤ Vbemat.nth row 0 by omega), decide_eq_true (show got ≤ need by omega), decide_eq_true (show need - got ≤ (row.drop 1).sum by omega)]; rfl
      · rintro σ H1 ⟨v2, v3, v4, rfl, s1, hok⟩
        have e : canGet h l = true := by
          unfold canGet
          rw [decide_eq_true hlen, Bool.true_and, List.all_eq_true]
          intro z hz
          obtain ⟨m, hm⟩ := List.getElem?_of_mem hz
          obtain ⟨q1, q2⟩ := List.getElem?_zip_eq_some.mp hm
          have hml := (List.getElem?_eq_some_iff.mp hm).1
          rw [List.length_zip, hg.len] at hml
          have := hg.same
          have := x.rl
          exact hok m z.1 z.2 (by simp only [List.length_map]; omega) q1 q2
        have := k H1 s1
        rw [e] at this
        exact this
abbrev sPass : Stmt := inClass (top 9) 7
abbrev nPass : List Str := ["self", "gets", "total", "need", "got", "rooms"]
theorem scPass : FnScope nPass ["self", "gets"] (defScope sPass) := ⟨rfl, rfl, rfl, by decide +kernel, rfl, by decide +kernel, by decide +kernel⟩
theorem ok_pass {f : Addr} {fd : FuncData} (F : Fun K "pass_on" "House.pass_on" sPass f fd) (B : Bi mg) (T : HC K C) (M : Met P w K mg base C 1 "can_get" ["self", "gets"] (spCanGet C)) : FnOk P w K mg base CX0 2 f fd ["self", "gets"] (spML C (fun l => l.length ≤ 8) mPass) := by
  refine F.ok scPass (fun vs H Q E h => ?_) (fun cdv A outer s H vs Q E hr h => ?_)
  · obtain ⟨a, d, h, p, l, rfl, _⟩ := h
    rfl
  · obtain ⟨a, d, h, p, l, rfl, hp, x, hg, hl, k⟩ := h
    have nd := scPass.nd
    refine ⟨_, pss_cons (ps_if (pt_cmp (pc_eqI (pe_callB call_len_seq rfl B.len bt_len (pa_cons (pe_fld (pv 0) rfl) pa_nil)) pe_int)) (pss_one (ps_ret (pe_lst (pa_cons (pe_un un_neg pe_int) pa_nil)))) pss_nil)
      (pss_cons (ps_if (pt_not (pt_val (pmeth (pv 0) T.cl M hr (pa_cons (pv 1) pa_nil)))) (pss_one (ps_ret (pe_lst (pa_cons (pe_un un_neg pe_int) pa_nil)))) pss_nil)
      (pss_cons (ps_set (i := 2) nd rfl (Or.inl rfl) (pe_op op_add (pe_ix ix_list (pe_fld (pv 0) rfl) pe_int (fun _ _ => rfl)) (pe_callB (cr_sum rfl) rfl B.sum bt_sum (pa_cons (pv 1) pa_nil))))
      (pss_cons (ps_fld (pv 0) (pe_lc (own := [("need", 3), ("got", 4)]) rfl nd (pi_zip rfl B.zip (pa_cons (pe_fld (pv 0) rfl) (pa_cons (pv 1) pa_nil))) (blkOk_by (show blkC nPass (defScope sPass) _ _ = true by decide +kernel))
        (fun _ _ _ _ _ => pg_pair (K := K) (i := 3) (j := 4) rfl rfl nd rfl rfl (Or.inl rfl) (Or.inl rfl)) (fun _ _ _ _ _ => pts_nil) (fun _ _ _ _ _ => pe_op op_sub (pv 3) (pv 4))) rfl)
      (pss_cons (ps_fld (pv 0) (pe_lc (own := [("rooms", 5)]) rfl nd (pi_list (pe_fld (pv 0) rfl)) (blkOk_by (show blkC nPass (defScope sPass) _ _ = true by decide +kernel)) (fun _ _ _ _ _ => pg_name (i := 5) nd rfl (Or.inl rfl)) (fun _ _ _ _ _ => pts_nil)
        (fun _ _ _ _ _ => pe_slice (sl_listK (K := K) rfl) (pv 5) (po_some pe_int) po_none)) rfl)
      (pss_cons (ps_fld (pv 0) (pe_slice sl_list (pe_fld (pv 0) rfl) (po_some pe_int) po_none) rfl)
      (pss_cons (ps_fldaug (pv 0) pe_int in_add)
      (pss_one (ps_ret (pe_lst (pa_cons pe_int (pa_cons (pv 2) pa_nil))))))))))), ?_⟩
    refine ifS (pvCmp (pvLen (pvBases T x pvVar) x.b) pvC) (fun hb => ?_) (fun hb => ?_)
    · rw [decide_eq_true_eq, List.length_map] at hb
      obtain ⟨e1, e2⟩ := mend_no k x (z := -8) (by unfold mPass; rw [if_pos (by omega)])
      exact ⟨_, rfl, e1, e2⟩
    · rw [decide_eq_false_iff_not, List.length_map] at hb
      have hb0 : h.bases.length ≠ 0 := by omega
      refine ⟨_, rfl, a, d.dx, _, rfl, x.ins, rfl, _, rfl, a, d, h, p, l, rfl, hp, x, hg, hb0, fun H1 s1 => ⟨_, rfl, ?_⟩⟩
      have x1 := x.same s1
      cases hcg : canGet h l with
      | false =>
        refine iteT ?_
        have er : mPass h l = (h, [-7]) := by unfold mPass; rw [if_neg hb0, if_pos hcg]
        have k := k
        rw [er] at k
        exact ⟨_, rfl, (by show 1 ≤ sizeLine; decide), fun q hq => k q _ d (x1.same (Sm.one hq)) upd_same (MKeep.same (s1.trans (Sm.one hq)))⟩
      | true =>
        refine iteF ?_
        have er : mPass h l = ({ h with needs := (h.needs.zip l).map (fun z => z.1 - z.2), rooms := h.rooms.map fun r => r.drop 1, bases := h.bases.drop 1, passed := h.passed + 1 }, [0, Vbemat.nth h.bases 0 + l.sum]) := by
          unfold mPass; rw [if_neg hb0, if_neg (by rw [hcg]; intro z; cases z)]
        have k := k
        rw [er] at k
        have hb8 := hg.b8
        have hn8 := hg.n8
        obtain ⟨a1, a2, a3, a4⟩ := x.apart
        have hat : atI (h.bases.map V.int) 0 = some (.int (Vbemat.nth h.bases 0)) := at_int (j := 0) (by omega)
        have hp1 := s1 _ _ hp
        refine ⟨_, rfl, a, C, _, _, _, rfl, x1.ins, T.cl, T.bases, hf_bases .., d.pb, _, _, _, rfl, rfl, SqL.of x1.b, hat, _, rfl, p, l, rfl, SqL.of hp1, _, _, rfl, rfl, ?_⟩
        refine ⟨_, rfl, a, C, _, _, _, rfl, x1.ins, T.cl, T.needs, hf_needs .., _, rfl, d.pn, p, _, _, rfl, SqL.of x1.n, SqL.of hp1, fun N1 hN1 => zipLc hN1 x1.n hp1 (by omega) (fun x y => x - y) (fun _ _ => rfl) (fun x y H' s' => pvI pvVar pvVar) (fun H2 s2 hN2 => ?_)⟩
        have x2 := x1.same s2
        have hN1H : H N1 = none := s1.free hN1
        refine ⟨_, rfl, a, C, d.dx, _, rfl, x2.ins, T.cl, T.needs, (by show 5 < 1000; decide), ?_⟩
        have i3 : (upd H2 a (.ins C d.dx (putF "needs" (.ref N1) (hfs h.begun d.pb d.pn d.pr h.passed)))) a = some (.ins C d.dx (hfs h.begun d.pb N1 d.pr h.passed)) := upd_same.trans rfl
        have k3 : ∀ b o, H2 b = some o → b ≠ a → (upd H2 a (.ins C d.dx (putF "needs" (.ref N1) (hfs h.begun d.pb d.pn d.pr h.passed)))) b = some o := fun b o e hb => by rw [upd_ne hb]; exact e
        have f3 : ∀ b, (upd H2 a (.ins C d.dx (putF "needs" (.ref N1) (hfs h.begun d.pb d.pn d.pr h.passed)))) b = none → H2 b = none ∧ b ≠ a := fun b e => by
          by_cases z : b = a
          · rw [z, upd_same] at e; cases e
          · rw [upd_ne z] at e; exact ⟨e, z⟩
        generalize (upd H2 a (.ins C d.dx (putF "needs" (.ref N1) (hfs h.begun d.pb d.pn d.pr h.passed)))) = H3 at i3 k3 f3
        have hN1a : N1 ≠ a := (ne_of_none x1.ins hN1).symm
        have r3 := k3 _ _ x2.r a3
        have rows3 : ∀ (j : Nat) (p : Addr) (row : List Int), d.rs[j]? = some p → h.rooms[j]? = some row → LI H3 p row := fun j p row e1 e2 => k3 _ _ (x2.rows j p row e1 e2) (a4 p (List.mem_of_getElem? e1))
        refine ⟨_, rfl, a, C, _, _, _, rfl, i3, T.cl, T.rooms, hf_rooms .., d.pr, rfl, ⟨_, SqL.of r3⟩, fun D hD => lcG hD wk_list (by rw [List.length_map, x.rl, ← hg.same]; exact line_le (by omega)) (fun H' s' => SqL.of (s' _ _ r3)) (NewRows H3 D (fun r => r.drop 1) h.rooms) ⟨[], rfl, rfl, fun j _ _ e => by simp at e, by simp, by simp⟩ (fun i acc H H' e kk => e.keep kk) (fun i acc H e => e.len) ?_ ?_⟩
        · rintro i y H4 acc Q' N hi s4 hy hG hDl kq
          obtain ⟨rp, hrp, rfl⟩ := ref_at hy
          have hir : i < h.rooms.length := by rw [← x.rl]; exact (List.getElem?_eq_some_iff.mp hrp).1
          have hrow : h.rooms[i]? = some h.rooms[i] := List.getElem?_eq_getElem hir
          have hp4 := s4 _ _ (rows3 i rp _ hrp hrow)
          refine ⟨rfl, iteT (B := N H4) ?_⟩
          refine ⟨_, rfl, _, rfl, rp, _, rfl, SqL.of hp4, fun q hq => ?_⟩
          have hqD : q ≠ D := fun z => by rw [z, hDl] at hq; cases hq
          exact kq _ _ (Sm.one hq) ((hG.keep fun b o _ e => Sm.one hq b o e).snoc hrow (upd_same.trans (by rw [cut_drop1])) hqD (s4.free hq))
        · rintro H4 acc s4 hDl ⟨ps, rfl, e2, e3, e4, e5⟩
          rw [List.length_map] at e2
          have i4 := s4 _ _ i3
          have hDa : D ≠ a := (ne_of_none i3 hD).symm
          refine ⟨_, rfl, a, C, _, _, rfl, i4, T.cl, T.rooms, (by show 5 < 1000; decide), ?_⟩
          have i5 : (upd H4 a (.ins C d.dx (putF "rooms" (.ref D) (hfs h.begun d.pb N1 d.pr h.passed)))) a = some (.ins C d.dx (hfs h.begun d.pb N1 D h.passed)) := upd_same.trans rfl
          have k5 : ∀ b o, H4 b = some o → b ≠ a → (upd H4 a (.ins C d.dx (putF "rooms" (.ref D) (hfs h.begun d.pb N1 d.pr h.passed)))) b = some o := fun b o e hb => by rw [upd_ne hb]; exact e
          have f5 : ∀ b, (upd H4 a (.ins C d.dx (putF "rooms" (.ref D) (hfs h.begun d.pb N1 d.pr h.passed)))) b = none → H4 b = none := fun b e => by
            by_cases z : b = a
            · rw [z, upd_same] at e; cases e
            · rw [upd_ne z] at e; exact e
          generalize (upd H4 a (.ins C d.dx (putF "rooms" (.ref D) (hfs h.begun d.pb N1 d.pr h.passed)))) = H5 at i5 k5 f5
          have b5 := k5 _ _ (s4 _ _ (k3 _ _ x2.b a1)) a1
          have toH5 : ∀ b o, H b = some o → b ≠ a → H5 b = some o := fun b o e z => k5 _ _ (s4 _ _ (k3 _ _ (s2 _ _ (s1 _ _ e)) z)) z
          refine ⟨_, rfl, a, C, _, _, _, rfl, i5, T.cl, T.bases, hf_bases .., _, rfl, d.pb, _, rfl, SqL.of b5, fun N2 hN2' => ?_⟩
          have hN2a : N2 ≠ a := fun z => by rw [z, i5] at hN2'; cases hN2'
          have hN2H : H N2 = none := by
            cases e : H N2 with
            | none => rfl
            | some o => rw [toH5 N2 o e hN2a] at hN2'; cases hN2'
          refine ⟨_, rfl, a, C, _, _, rfl, (by rw [upd_ne (Ne.symm hN2a)]; exact i5), T.cl, T.bases, (by show 5 < 1000; decide), ?_⟩
          refine ⟨_, rfl, a, C, _, _, _, rfl, upd_same, T.cl, T.passed, (show List.lookup ("passed" : Str) (putF "bases" (.ref N2) (hfs h.begun d.pb N1 D h.passed)) = some (V.int h.passed) from rfl), ?_⟩
          refine ⟨_, _, rfl, rfl, d.dx, _, upd_same, (by show 5 < 1000; decide), ?_⟩
          refine ⟨_, rfl, (by show 2 ≤ sizeLine; decide), fun r hr => ?_⟩
          have i6 : (upd (upd (upd H5 N2 (.lst (cutV (h.bases.map V.int) (some 1) none))) a (.ins C d.dx (putF "bases" (.ref N2) (hfs h.begun d.pb N1 D h.passed)))) a (.ins C d.dx (putF "passed" (.int (h.passed + 1)) (putF "bases" (.ref N2) (hfs h.begun d.pb N1 D h.passed))))) a = some (.ins C d.dx (hfs h.begun N2 N1 D (h.passed + 1))) := upd_same.trans rfl
          have k6 : ∀ b o, H5 b = some o → b ≠ a → (upd (upd (upd H5 N2 (.lst (cutV (h.bases.map V.int) (some 1) none))) a (.ins C d.dx (putF "bases" (.ref N2) (hfs h.begun d.pb N1 D h.passed)))) a (.ins C d.dx (putF "passed" (.int (h.passed + 1)) (putF "bases" (.ref N2) (hfs h.begun d.pb N1 D h.passed))))) b = some o := fun b o e z => by
            rw [upd_ne z, upd_ne z, upd_ne (ne_of_none e hN2')]; exact e
          have n6 : (upd (upd (upd H5 N2 (.lst (cutV (h.bases.map V.int) (some 1) none))) a (.ins C d.dx (putF "bases" (.ref N2) (hfs h.begun d.pb N1 D h.passed)))) a (.ins C d.dx (putF "passed" (.int (h.passed + 1)) (putF "bases" (.ref N2) (hfs h.begun d.pb N1 D h.passed))))) N2 = some (.lst ((h.bases.drop 1).map V.int)) := by
            rw [upd_ne hN2a, upd_ne hN2a]; exact upd_same.trans (by rw [cut_drop1])
          generalize (upd (upd (upd H5 N2 (.lst (cutV (h.bases.map V.int) (some 1) none))) a (.ins C d.dx (putF "bases" (.ref N2) (hfs h.begun d.pb N1 D h.passed)))) a (.ins C d.dx (putF "passed" (.int (h.passed + 1)) (putF "bases" (.ref N2) (hfs h.begun d.pb N1 D h.passed))))) = H6 at i6 k6 n6 hr
          have s7 := Sm.one (o := .lst [V.int 0, V.int (Vbemat.nth h.bases 0 + l.sum)]) hr
          have N1at3 : H3 N1 = some (.lst (((h.needs.zip l).map fun z => z.1 - z.2).map V.int)) := k3 _ _ hN2 hN1a
          have N1at5 : H5 N1 = some (.lst (((h.needs.zip l).map fun z => z.1 - z.2).map V.int)) := k5 _ _ (s4 _ _ N1at3) hN1a
          have Dat5 := k5 _ _ hDl hDa
          have hDH3 : H3 D = none := hD
          have hDH : H D = none := by
            cases e : H D with
            | none => rfl
            | some o =>
              have := k3 _ _ (s2 _ _ (s1 _ _ e)) hDa
              rw [hD] at this; cases this
          have hN12 : N2 ≠ N1 := fun z => by rw [z, N1at5] at hN2'; cases hN2'
          have hN2D : N2 ≠ D := fun z => by rw [z, Dat5] at hN2'; cases hN2'
          have hN1D : N1 ≠ D := ne_of_none N1at3 hD
          have ps4 : ∀ q ∈ ps, q ≠ a ∧ ∃ o, H5 q = some o := fun q hq => by
            have hqa : q ≠ a := fun z => by have := e5 q hq; rw [z, i3] at this; cases this
            obtain ⟨j, hj⟩ := List.getElem?_of_mem hq
            have hjr : j < h.rooms.length := by rw [← x.rl, ← e2]; exact (List.getElem?_eq_some_iff.mp hj).1
            exact ⟨hqa, _, k5 _ _ (e3 j q _ hj (List.getElem?_eq_getElem hjr)) hqa⟩
          refine k r _ { d with pb := N2, pn := N1, pr := D, rs := ps } ⟨s7 _ _ i6, s7 _ _ n6, s7 _ _ (k6 _ _ N1at5 hN1a), s7 _ _ (k6 _ _ Dat5 hDa), by rw [e2, List.length_map]; exact x.rl, fun j q row q1 q2 => ?_, hN12, hN2D, hN1D, fun z => ?_, fun z => ?_, e4⟩ upd_same
            ⟨fun b o e z _ _ _ => s7 _ _ (k6 _ _ (toH5 b o e z) z), .inr hN2H, .inr hN1H, .inr hDH⟩
          · rw [List.getElem?_map] at q2
            obtain ⟨row0, hr0, er0⟩ := Option.map_eq_some_iff.mp q2
            have hqa := (ps4 q (List.mem_of_getElem? q1)).1
            have := s7 _ _ (k6 _ _ (k5 _ _ (e3 j q row0 q1 hr0) hqa) hqa)
            rw [← er0]; exact this
          · obtain ⟨_, o, ho⟩ := ps4 _ z
            rw [hN2'] at ho; cases ho
          · have := e5 _ z
            rw [N1at3] at this; cases this
end
end Hs
end
section
set_option Elab.async false
set_option linter.all false
set_option maxRecDepth 100000
set_option maxHeartbeats 4000000
namespace Hs
open PySem PySem.Spec
open PyProof.Rows hiding St
open L2
theorem nums_in {nums : List Int} {rg : List (Int × Int)} (h : numsIn nums rg = true) (hl : nums.length = rg.length) (j : Nat) (z : Int × Int) (hz : rg[j]? = some z) : j < nums.length ∧ z.1 ≤ Vbemat.nth nums j ∧ Vbemat.nth nums j ≤ z.2 := by
  have hj : j < nums.length := by rw [hl]; exact (List.getElem?_eq_some_iff.mp hz).1
  have hx : nums[j]? = some nums[j] := List.getElem?_eq_getElem hj
  unfold numsIn at h
  rw [List.all_eq_true] at h
  have := h (nums[j], z) (List.mem_of_getElem? (List.getElem?_zip_eq_some.mpr ⟨hx, hz⟩))
  rw [Bool.and_eq_true, decide_eq_true_eq, decide_eq_true_eq] at this
  rw [nth_of hx]
  exact ⟨hj, this.1, this.2⟩
theorem row_in {row : List Int} {z : Nat × Int × Int} (h : rowIn row z = true) : row.length ≤ z.1 ∧ ∀ v ∈ row, z.2.1 ≤ v ∧ v ≤ z.2.2 := by
  unfold rowIn at h
  rw [Bool.and_eq_true, decide_eq_true_eq, List.all_eq_true] at h
  refine ⟨h.1, fun v hv => ?_⟩
  have := h.2 v hv
  rw [Bool.and_eq_true, decide_eq_true_eq, decide_eq_true_eq] at this
  exact this
structure InR (q : Nat) (nums row : List Int) : Prop where
  ok : callIn q nums row = true
  len : nums.length = ((ranges[q]?).getD []).length
theorem InR.num {q : Nat} {nums row : List Int} (h : InR q nums row) (j : Nat) (z : Int × Int) (hz : ((ranges[q]?).getD [])[j]? = some z) : j < nums.length ∧ z.1 ≤ Vbemat.nth nums j ∧ Vbemat.nth nums j ≤ z.2 := by
  have := h.ok
  unfold callIn at this
  rw [Bool.and_eq_true] at this
  exact nums_in this.1 h.len j z hz
theorem InR.row {q : Nat} {nums row : List Int} (h : InR q nums row) {z : Nat × Int × Int} (hz : rowsOf q = some z) : row.length ≤ z.1 ∧ ∀ v ∈ row, z.2.1 ≤ v ∧ v ≤ z.2.2 := by
  have := h.ok
  unfold callIn at this
  rw [Bool.and_eq_true, hz] at this
  exact row_in this.2
def mChange (h : HS) (q : Nat) (nums row : List Int) : HS × List Int :=
  if q = 0 then mBegin h (Vbemat.nth nums 0) else if q = 1 then mLoad h (Vbemat.nth nums 0) row else if q = 2 then mNeed h (Vbemat.nth nums 0) (Vbemat.nth nums 1) else if q = 3 then mRoom h (Vbemat.nth nums 0) (Vbemat.nth nums 1) (Vbemat.nth nums 2)
  else if q = 4 then mBase h (Vbemat.nth nums 0) (Vbemat.nth nums 1) else if q = 5 then mAdd h else mPass h row
def gShow (h : HS) (q : Nat) : List Int := if q = 7 then [0] ++ gTotals h else if q = 8 then [0] ++ gAmounts h else if q = 9 then [0] ++ gShares h else [0, gPeak h]
def gAsk (h : HS) (q : Nat) (nums row : List Int) : List Int :=
  if q = 11 then gTop h (Vbemat.nth nums 0) else if q = 12 then gSquare h else if q = 13 then gMean h row else if q = 14 then gBecause h else if q = 15 then gCheck h row else if q = 16 then gSlack h (Vbemat.nth nums 0) (Vbemat.nth nums 1)
  else if q = 17 then gFits h (Vbemat.nth nums 0) else if q = 18 then gCould h (Vbemat.nth nums 0) else if q = 19 then gInfo h (Vbemat.nth nums 0) else gState h
def mAnswer (h : HS) (q : Nat) (nums row : List Int) : HS × List Int :=
  if callIn q nums row = false then (h, [-1]) else if q ≠ 0 ∧ h.begun = false then (h, [-2]) else if q ≤ 6 then mChange h q nums row else if q ≤ 10 then (h, gShow h q) else (h, gAsk h q nums row)
theorem shares_len (f : List Int) : ∀ (ls : List Vbemat.Load) (st : List Int × List Int), (ls.foldl Lev.loadStep st).2.length = st.2.length + (ls.map fun y => y.rooms.length).sum
  | [], st => rfl
  | y :: r, st => by
    rw [List.foldl_cons, shares_len f r, List.map_cons, List.sum_cons]
    have one : ∀ (l : List (Nat × Int)) (st : List Int × List Int), (l.foldl Lev.shareStep st).2.length = st.2.length + l.length := fun l => by
      induction l with
      | nil => intro st; rfl
      | cons z t ih =>
        intro st
        rw [List.foldl_cons, ih]
        show (st.2 ++ [_]).length + t.length = st.2.length + (t.length + 1)
        rw [List.length_append]
        show st.2.length + 1 + t.length = _
        omega
    have e : (Lev.loadStep st y).2.length = st.2.length + y.rooms.length := by
      unfold Lev.loadStep
      rw [one, List.length_zip, List.length_range, Nat.min_self]
    rw [e]
    omega
theorem sum_le_nat : ∀ (l : List Nat) (b : Nat), (∀ x ∈ l, x ≤ b) → l.sum ≤ l.length * b
  | [], b, _ => by simp
  | a :: r, b, h => by
    have ih := sum_le_nat r b fun x hx => h x (List.mem_cons_of_mem _ hx)
    have h1 := h a (List.mem_cons_self ..)
    rw [List.sum_cons, List.length_cons, Nat.add_mul, Nat.one_mul]
    omega
theorem HGood.sh_len {h : HS} (g : HGood h) : (gShares h).length ≤ 64 := by
  show ((loadsOf h).foldl Lev.loadStep (gFree h, [])).2.length ≤ 64
  rw [shares_len []]
  have := sum_le_nat ((loadsOf h).map fun y => y.rooms.length) 8 fun n hn => by
    obtain ⟨y, hy, rfl⟩ := List.mem_map.mp hn
    rw [(g.good.ld y hy).1]; exact g.b8
  rw [List.length_map] at this
  have h8 := g.good.l8
  show 0 + _ ≤ 64
  omega
section
variable {P : Program} {w : World} {K : PySem.W.Frag} {mg : Str → Option Value} {base : Heap} {C : Addr}
abbrev sShow : Stmt := top 43
abbrev nShow : List Str := ["house", "number"]
theorem scShow : FnScope nShow ["house", "number"] (defScope sShow) := ⟨rfl, rfl, rfl, by decide +kernel, rfl, by decide +kernel, by decide +kernel⟩
def spShow (C : Addr) : Sp := fun vs H Q _ => ∃ (a : Addr) (d : HAd) (h : HS) (q : Nat), vs = [.ref a, .int q] ∧ HAt C H a d h ∧ HGood h ∧ ∀ (r : Addr) (H' : Hp), Same H H' → LI H' r (gShow h q) → Q (.ref r) H'
theorem cat0 {te : TE} {σ : St} {H : Hp} {Q : VK} {g : List Int} (hl : g.length ≤ 1000) (hcall : ∀ (H1 : Hp) (Q1 : VK), Same H H1 → (∀ (p : Addr) (H2 : Hp), Same H1 H2 → LI H2 p g → Q1 (.ref p) H2) → te σ H1 Q1)
    (k : ∀ (r : Addr) (H' : Hp), Same H H' → LI H' r ([0] ++ g) → Q (.ref r) H') : tOp rCat (tLst (tCons (tC (.int 0)) tNil)) te σ H Q := by
  refine ⟨(by show 1 ≤ sizeLine; decide), fun l hl1 => hcall _ _ (Sm.one hl1) fun p H2 s2 hp => ⟨l, p, _, _, rfl, rfl, s2 _ _ upd_same, hp, ?_, fun r hr => k r _ (Sm.add ((Sm.one hl1).trans s2) hr) (upd_same.trans ?_)⟩⟩
  · rw [List.length_map]; exact line_le (by show 1 + _ ≤ _; omega)
  · rw [List.map_append]; rfl
theorem ok_show {f : Addr} {fd : FuncData} (F : Fun K "show" "show" sShow f fd) (C1 : Cal P w K mg base 5 "plan_totals" ["house"] (spList C gTotals)) (C2 : Cal P w K mg base 6 "plan_amounts" ["house"] (spList C gAmounts)) (C3 : Cal P w K mg base 8 "plan_shares" ["house"] (spList C gShares)) (C4 : Cal P w K mg base 6 "plan_peak" ["house"] (spPeak C)) :
    FnOk P w K mg base CX0 9 f fd ["house", "number"] (spShow C) := by
  refine F.ok scShow (fun vs H Q E h => ?_) (fun cdv A outer s H vs Q E hr h => ?_)
  · obtain ⟨a, d, h, q, rfl, _⟩ := h
    rfl
  · obtain ⟨a, d, h, q, rfl, x, hg, k⟩ := h
    have hr5 : Room 5 _ := hr.mono (by decide : 5 ≤ 8)
    have hr6 : Room 6 _ := hr.mono (by decide : 6 ≤ 8)
    refine ⟨_, pss_cons (ps_if (pt_cmp (pc_eqI (pv 1) pe_int)) (pss_one (ps_ret (pe_op op_cat (pe_lst (pa_cons pe_int pa_nil)) (pcall C1 hr5 rfl (pa_cons (pv 0) pa_nil))))) pss_nil)
      (pss_cons (ps_if (pt_cmp (pc_eqI (pv 1) pe_int)) (pss_one (ps_ret (pe_op op_cat (pe_lst (pa_cons pe_int pa_nil)) (pcall C2 hr6 rfl (pa_cons (pv 0) pa_nil))))) pss_nil)
      (pss_cons (ps_if (pt_cmp (pc_eqI (pv 1) pe_int)) (pss_one (ps_ret (pe_op op_cat (pe_lst (pa_cons pe_int pa_nil)) (pcall C3 hr rfl (pa_cons (pv 0) pa_nil))))) pss_nil)
      (pss_one (ps_ret (pe_lst (pa_cons pe_int (pa_cons (pcall C4 hr6 rfl (pa_cons (pv 0) pa_nil)) pa_nil))))))), ?_⟩
    have hb8 := hg.b8
    refine ifS (pvCmp pvVar pvC) (fun hb => ?_) (fun hb => ?_)
    · rw [decide_eq_true_eq] at hb
      have e : gShow h q = [0] ++ gTotals h := by unfold gShow; rw [if_pos (by omega)]
      rw [e] at k
      exact cat0 (by rw [hg.tot_len]; omega) (fun H1 Q1 s1 kk => ⟨_, rfl, a, d, h, rfl, x.same s1, hg, kk⟩) k
    · rw [decide_eq_false_iff_not] at hb
      refine ifS (pvCmp pvVar pvC) (fun hb2 => ?_) (fun hb2 => ?_)
      · rw [decide_eq_true_eq] at hb2
        have e : gShow h q = [0] ++ gAmounts h := by unfold gShow; rw [if_neg (by omega), if_pos (by omega)]
        rw [e] at k
        exact cat0 (by rw [hg.am_len]; omega) (fun H1 Q1 s1 kk => ⟨_, rfl, a, d, h, rfl, x.same s1, hg, kk⟩) k
      · rw [decide_eq_false_iff_not] at hb2
        refine ifS (pvCmp pvVar pvC) (fun hb3 => ?_) (fun hb3 => ?_)
        · rw [decide_eq_true_eq] at hb3
          have e : gShow h q = [0] ++ gShares h := by unfold gShow; rw [if_neg (by omega), if_neg (by omega), if_pos (by omega)]
          rw [e] at k
          exact cat0 (by have := hg.sh_len; omega) (fun H1 Q1 s1 kk => ⟨_, rfl, a, d, h, rfl, x.same s1, hg, kk⟩) k
        · rw [decide_eq_false_iff_not] at hb3
          have e : gShow h q = [0, gPeak h] := by unfold gShow; rw [if_neg (by omega), if_neg (by omega), if_neg (by omega)]
          rw [e] at k
          exact ⟨_, rfl, a, d, h, rfl, x, hg, fun H1 s1 => ⟨(by show 2 ≤ sizeLine; decide), fun r hr => k r _ (Sm.add s1 hr) upd_same⟩⟩
abbrev sChange : Stmt := top 42
abbrev nChange : List Str := ["house", "number", "numbers", "row"]
theorem scChange : FnScope nChange ["house", "number", "numbers", "row"] (defScope sChange) := ⟨rfl, rfl, rfl, by decide +kernel, rfl, by decide +kernel, by decide +kernel⟩
def spChange (C : Addr) : Sp := fun vs H Q _ => ∃ (a : Addr) (d : HAd) (h : HS) (q : Nat) (pn pr : Addr) (nums row : List Int), vs = [.ref a, .int q, .ref pn, .ref pr] ∧ HAt C H a d h ∧ HGood h ∧ LI H pn nums ∧ LI H pr row ∧ pr ≠ d.pn ∧ q ≤ 6 ∧ InR q nums row ∧ MEnd C H a d (mChange h q nums row) Q
structure HMeths (P : Program) (w : World) (K : PySem.W.Frag) (mg : Str → Option Value) (base : Heap) (C : Addr) : Prop where
  begin_ : Met P w K mg base C 1 "begin" ["self", "periods"] (spM1 C (fun n => 1 ≤ n ∧ n ≤ 8) mBegin)
  load : Met P w K mg base C 1 "add_load" ["self", "need", "rooms"] (spMIL C (fun l => l.length ≤ 8) mLoad)
  need : Met P w K mg base C 1 "change_need" ["self", "load", "amount"] (spM2 C (fun c _ => 1 ≤ c) mNeed)
  room : Met P w K mg base C 1 "change_room" ["self", "load", "period", "amount"] (spM3 C (fun c t _ => 1 ≤ c ∧ 1 ≤ t) mRoom)
  base_ : Met P w K mg base C 1 "change_base" ["self", "period", "amount"] (spM2 C (fun t _ => 1 ≤ t) mBase)
  add : Met P w K mg base C 1 "add_period" ["self"] (spM0 C mAdd)
  pass : Met P w K mg base C 2 "pass_on" ["self", "gets"] (spML C (fun l => l.length ≤ 8) mPass)
theorem at0 {xs : List Int} (h : 0 < xs.length) : atI (xs.map V.int) 0 = some (.int (Vbemat.nth xs 0)) := at_int (j := 0) h
theorem at1 {xs : List Int} (h : 1 < xs.length) : atI (xs.map V.int) 1 = some (.int (Vbemat.nth xs 1)) := at_int (j := 1) h
theorem at2 {xs : List Int} (h : 2 < xs.length) : atI (xs.map V.int) 2 = some (.int (Vbemat.nth xs 2)) := at_int (j := 2) h
theorem ok_change {f : Addr} {fd : FuncData} (F : Fun K "change" "change" sChange f fd) (T : HC K C) (M : HMeths P w K mg base C) : FnOk P w K mg base CX0 3 f fd ["house", "number", "numbers", "row"] (spChange C) := by
  refine F.ok scChange (fun vs H Q E h => ?_) (fun cdv A outer s H vs Q E hr h => ?_)
  · obtain ⟨a, d, h, q, pn, pr, nums, row, rfl, _⟩ := h
    rfl
  · obtain ⟨a, d, h, q, pn, pr, nums, row, rfl, x, hg, hpn, hpr, hne, hq, R, k⟩ := h
    have hr1 : Room 1 _ := hr.mono (by decide : 1 ≤ 2)
    refine ⟨_, pss_cons (ps_if (pt_cmp (pc_eqI (pv 1) pe_int)) (pss_one (ps_ret (pmeth (pv 0) T.cl M.begin_ hr1 (pa_cons (pe_ix ix_list (pv 2) pe_int (fun _ _ => rfl)) pa_nil)))) pss_nil)
      (pss_cons (ps_if (pt_cmp (pc_eqI (pv 1) pe_int)) (pss_one (ps_ret (pmeth (pv 0) T.cl M.load hr1 (pa_cons (pe_ix ix_list (pv 2) pe_int (fun _ _ => rfl)) (pa_cons (pv 3) pa_nil))))) pss_nil)
      (pss_cons (ps_if (pt_cmp (pc_eqI (pv 1) pe_int)) (pss_one (ps_ret (pmeth (pv 0) T.cl M.need hr1 (pa_cons (pe_ix ix_list (pv 2) pe_int (fun _ _ => rfl)) (pa_cons (pe_ix ix_list (pv 2) pe_int (fun _ _ => rfl)) pa_nil))))) pss_nil)
      (pss_cons (ps_if (pt_cmp (pc_eqI (pv 1) pe_int)) (pss_one (ps_ret (pmeth (pv 0) T.cl M.room hr1 (pa_cons (pe_ix ix_list (pv 2) pe_int (fun _ _ => rfl)) (pa_cons (pe_ix ix_list (pv 2) pe_int (fun _ _ => rfl)) (pa_cons (pe_ix ix_list (pv 2) pe_int (fun _ _ => rfl)) pa_nil)))))) pss_nil)
      (pss_cons (ps_if (pt_cmp (pc_eqI (pv 1) pe_int)) (pss_one (ps_ret (pmeth (pv 0) T.cl M.base_ hr1 (pa_cons (pe_ix ix_list (pv 2) pe_int (fun _ _ => rfl)) (pa_cons (pe_ix ix_list (pv 2) pe_int (fun _ _ => rfl)) pa_nil))))) pss_nil)
      (pss_cons (ps_if (pt_cmp (pc_eqI (pv 1) pe_int)) (pss_one (ps_ret (pmeth0 (pv 0) T.cl M.add hr1))) pss_nil)
      (pss_one (ps_ret (pmeth (pv 0) T.cl M.pass hr (pa_cons (pv 3) pa_nil))))))))), ?_⟩
    refine ifS (pvCmp pvVar pvC) (fun hb => ?_) (fun hb => ?_)
    · rw [decide_eq_true_eq] at hb
      obtain rfl : q = 0 := by omega
      obtain ⟨n0, n1, n2⟩ := R.num 0 (1, 8) rfl
      exact ⟨_, rfl, a, d.dx, _, rfl, x.ins, rfl, _, rfl, pn, _, _, _, rfl, rfl, SqL.of hpn, at0 n0, a, d, h, _, rfl, x, hg, ⟨n1, n2⟩, k⟩
    rw [decide_eq_false_iff_not] at hb
    refine ifS (pvCmp pvVar pvC) (fun hb1 => ?_) (fun hb1 => ?_)
    · rw [decide_eq_true_eq] at hb1
      obtain rfl : q = 1 := by omega
      obtain ⟨n0, _, _⟩ := R.num 0 (0, 1000000000) rfl
      have hrw := R.row (z := (8, 0, 1000000000)) rfl
      exact ⟨_, rfl, a, d.dx, _, rfl, x.ins, rfl, _, rfl, pn, _, _, _, rfl, rfl, SqL.of hpn, at0 n0, _, rfl, a, d, h, _, pr, row, rfl, hpr, hne, x, hg, hrw.1, k⟩
    rw [decide_eq_false_iff_not] at hb1
    refine ifS (pvCmp pvVar pvC) (fun hb2 => ?_) (fun hb2 => ?_)
    · rw [decide_eq_true_eq] at hb2
      obtain rfl : q = 2 := by omega
      obtain ⟨n0, n1, _⟩ := R.num 0 (1, 8) rfl
      obtain ⟨m0, _, _⟩ := R.num 1 (0, 1000000000) rfl
      exact ⟨_, rfl, a, d.dx, _, rfl, x.ins, rfl, _, rfl, pn, _, _, _, rfl, rfl, SqL.of hpn, at0 n0, _, rfl, pn, _, _, _, rfl, rfl, SqL.of hpn, at1 m0, a, d, h, _, _, rfl, x, hg, n1, k⟩
    rw [decide_eq_false_iff_not] at hb2
    refine ifS (pvCmp pvVar pvC) (fun hb3 => ?_) (fun hb3 => ?_)
    · rw [decide_eq_true_eq] at hb3
      obtain rfl : q = 3 := by omega
      obtain ⟨n0, n1, _⟩ := R.num 0 (1, 8) rfl
      obtain ⟨m0, m1, _⟩ := R.num 1 (1, 8) rfl
      obtain ⟨l0, _, _⟩ := R.num 2 (0, 1000000000) rfl
      exact ⟨_, rfl, a, d.dx, _, rfl, x.ins, rfl, _, rfl, pn, _, _, _, rfl, rfl, SqL.of hpn, at0 n0, _, rfl, pn, _, _, _, rfl, rfl, SqL.of hpn, at1 m0, _, rfl, pn, _, _, _, rfl, rfl, SqL.of hpn, at2 l0, a, d, h, _, _, _, rfl, x, hg, ⟨n1, m1⟩, k⟩
    rw [decide_eq_false_iff_not] at hb3
    refine ifS (pvCmp pvVar pvC) (fun hb4 => ?_) (fun hb4 => ?_)
    · rw [decide_eq_true_eq] at hb4
      obtain rfl : q = 4 := by omega
      obtain ⟨n0, n1, _⟩ := R.num 0 (1, 8) rfl
      obtain ⟨m0, _, _⟩ := R.num 1 (0, 1000000000) rfl
      exact ⟨_, rfl, a, d.dx, _, rfl, x.ins, rfl, _, rfl, pn, _, _, _, rfl, rfl, SqL.of hpn, at0 n0, _, rfl, pn, _, _, _, rfl, rfl, SqL.of hpn, at1 m0, a, d, h, _, _, rfl, x, hg, n1, k⟩
    rw [decide_eq_false_iff_not] at hb4
    refine ifS (pvCmp pvVar pvC) (fun hb5 => ?_) (fun hb5 => ?_)
    · rw [decide_eq_true_eq] at hb5
      obtain rfl : q = 5 := by omega
      exact ⟨_, rfl, a, d.dx, _, rfl, x.ins, rfl, a, d, h, rfl, x, hg, k⟩
    rw [decide_eq_false_iff_not] at hb5
    obtain rfl : q = 6 := by omega
    have hrw := R.row (z := (8, 0, 1000000000)) rfl
    exact ⟨_, rfl, a, d.dx, _, rfl, x.ins, rfl, _, rfl, a, d, h, pr, row, rfl, hpr, x, hg, hrw.1, k⟩
end
end Hs
end
section
set_option Elab.async false
set_option linter.all false
set_option maxRecDepth 100000
set_option maxHeartbeats 4000000
namespace Hs
open PySem PySem.Spec
open PyProof.Rows hiding St
open L2
section
variable {P : Program} {w : World} {K : PySem.W.Frag} {mg : Str → Option Value} {base : Heap} {C CC : Addr}
abbrev sAsk : Stmt := top 44
abbrev nAsk : List Str := ["house", "number", "numbers", "row"]
theorem scAsk : FnScope nAsk ["house", "number", "numbers", "row"] (defScope sAsk) := ⟨rfl, rfl, rfl, by decide +kernel, rfl, by decide +kernel, by decide +kernel⟩
def spAsk (C : Addr) : Sp := fun vs H Q _ => ∃ (a : Addr) (d : HAd) (h : HS) (q : Nat) (pn pr : Addr) (nums row : List Int), vs = [.ref a, .int q, .ref pn, .ref pr] ∧ HAt C H a d h ∧ HGood h ∧ LI H pn nums ∧ LI H pr row ∧ 11 ≤ q ∧ q ≤ 20 ∧ InR q nums row ∧ ∀ (r : Addr) (H' : Hp), Same H H' → LI H' r (gAsk h q nums row) → Q (.ref r) H'
structure HAsks (P : Program) (w : World) (K : PySem.W.Frag) (mg : Str → Option Value) (base : Heap) (C : Addr) : Prop where
  top : Cal P w K mg base 6 "top_sum" ["house", "many"] (spQ1 C (fun _ k => 0 ≤ k) gTop)
  square : Cal P w K mg base 6 "square_sum" ["house"] (spList C gSquare)
  mean : Cal P w K mg base 5 "forced_and_mean" ["house", "periods"] (spQL C (fun _ l => l.length ≤ 8) gMean)
  peaks : Cal P w K mg base 7 "peak_periods" ["house"] (spList C gBecause)
  check : Cal P w K mg base 2 "schedule_check" ["house", "amounts"] (spQL C (fun _ l => ∀ x ∈ l, 0 ≤ x ∧ x ≤ 1000000000) gCheck)
  slack : Cal P w K mg base 8 "slack_between" ["house", "source", "to"] (spQ2 C (fun _ s t => 1 ≤ s ∧ 1 ≤ t) gSlack)
  fits : Cal P w K mg base 7 "fits_limit" ["house", "limit"] (spQ1 C (fun _ _ => True) gFits)
  could : Cal P w K mg base 7 "greatest_need" ["house", "load"] (spQ1 C (fun _ c => 1 ≤ c) gCould)
  info : Cal P w K mg base 1 "load_info" ["house", "load"] (spQ1 C (fun _ c => 1 ≤ c) gInfo)
  state : Cal P w K mg base 1 "house_state" ["house"] (spList C gState)
theorem ok_ask {f : Addr} {fd : FuncData} (F : Fun K "ask" "ask" sAsk f fd) (M : HAsks P w K mg base C) : FnOk P w K mg base CX0 9 f fd ["house", "number", "numbers", "row"] (spAsk C) := by
  refine F.ok scAsk (fun vs H Q E h => ?_) (fun cdv A outer s H vs Q E hr h => ?_)
  · obtain ⟨a, d, h, q, pn, pr, nums, row, rfl, _⟩ := h
    rfl
  · obtain ⟨a, d, h, q, pn, pr, nums, row, rfl, x, hg, hpn, hpr, hq1, hq2, R, k⟩ := h
    have hr7 : Room 7 _ := hr.mono (by decide : 7 ≤ 8)
    have hr6 : Room 6 _ := hr.mono (by decide : 6 ≤ 8)
    have hr5 : Room 5 _ := hr.mono (by decide : 5 ≤ 8)
    have hr2 : Room 2 _ := hr.mono (by decide : 2 ≤ 8)
    have hr1 : Room 1 _ := hr.mono (by decide : 1 ≤ 8)
    refine ⟨_, pss_cons (ps_if (pt_cmp (pc_eqI (pv 1) pe_int)) (pss_one (ps_ret (pcall M.top hr6 rfl (pa_cons (pv 0) (pa_cons (pe_ix ix_list (pv 2) pe_int (fun _ _ => rfl)) pa_nil))))) pss_nil)
      (pss_cons (ps_if (pt_cmp (pc_eqI (pv 1) pe_int)) (pss_one (ps_ret (pcall M.square hr6 rfl (pa_cons (pv 0) pa_nil)))) pss_nil)
      (pss_cons (ps_if (pt_cmp (pc_eqI (pv 1) pe_int)) (pss_one (ps_ret (pcall M.mean hr5 rfl (pa_cons (pv 0) (pa_cons (pv 3) pa_nil))))) pss_nil)
      (pss_cons (ps_if (pt_cmp (pc_eqI (pv 1) pe_int)) (pss_one (ps_ret (pcall M.peaks hr7 rfl (pa_cons (pv 0) pa_nil)))) pss_nil)
      (pss_cons (ps_if (pt_cmp (pc_eqI (pv 1) pe_int)) (pss_one (ps_ret (pcall M.check hr2 rfl (pa_cons (pv 0) (pa_cons (pv 3) pa_nil))))) pss_nil)
      (pss_cons (ps_if (pt_cmp (pc_eqI (pv 1) pe_int)) (pss_one (ps_ret (pcall M.slack hr rfl (pa_cons (pv 0) (pa_cons (pe_ix ix_list (pv 2) pe_int (fun _ _ => rfl)) (pa_cons (pe_ix ix_list (pv 2) pe_int (fun _ _ => rfl)) pa_nil)))))) pss_nil)
      (pss_cons (ps_if (pt_cmp (pc_eqI (pv 1) pe_int)) (pss_one (ps_ret (pcall M.fits hr7 rfl (pa_cons (pv 0) (pa_cons (pe_ix ix_list (pv 2) pe_int (fun _ _ => rfl)) pa_nil))))) pss_nil)
      (pss_cons (ps_if (pt_cmp (pc_eqI (pv 1) pe_int)) (pss_one (ps_ret (pcall M.could hr7 rfl (pa_cons (pv 0) (pa_cons (pe_ix ix_list (pv 2) pe_int (fun _ _ => rfl)) pa_nil))))) pss_nil)
      (pss_cons (ps_if (pt_cmp (pc_eqI (pv 1) pe_int)) (pss_one (ps_ret (pcall M.info hr1 rfl (pa_cons (pv 0) (pa_cons (pe_ix ix_list (pv 2) pe_int (fun _ _ => rfl)) pa_nil))))) pss_nil)
      (pss_one (ps_ret (pcall M.state hr1 rfl (pa_cons (pv 0) pa_nil)))))))))))), ?_⟩
    refine ifS (pvCmp pvVar pvC) (fun hb => ?_) (fun hb => ?_)
    · rw [decide_eq_true_eq] at hb
      obtain rfl : q = 11 := by omega
      obtain ⟨n0, n1, _⟩ := R.num 0 (1, 8) rfl
      exact ⟨_, rfl, _, rfl, pn, _, _, _, rfl, rfl, SqL.of hpn, at0 n0, a, d, h, _, rfl, x, hg, Int.le_trans (by decide) n1, k⟩
    rw [decide_eq_false_iff_not] at hb
    refine ifS (pvCmp pvVar pvC) (fun hb1 => ?_) (fun hb1 => ?_)
    · rw [decide_eq_true_eq] at hb1
      obtain rfl : q = 12 := by omega
      exact ⟨_, rfl, a, d, h, rfl, x, hg, k⟩
    rw [decide_eq_false_iff_not] at hb1
    refine ifS (pvCmp pvVar pvC) (fun hb2 => ?_) (fun hb2 => ?_)
    · rw [decide_eq_true_eq] at hb2
      obtain rfl : q = 13 := by omega
      have hrw := R.row (z := (8, 1, 8)) rfl
      exact ⟨_, rfl, _, rfl, a, d, h, pr, row, rfl, hpr, x, hg, hrw.1, k⟩
    rw [decide_eq_false_iff_not] at hb2
    refine ifS (pvCmp pvVar pvC) (fun hb3 => ?_) (fun hb3 => ?_)
    · rw [decide_eq_true_eq] at hb3
      obtain rfl : q = 14 := by omega
      exact ⟨_, rfl, a, d, h, rfl, x, hg, k⟩
    rw [decide_eq_false_iff_not] at hb3
    refine ifS (pvCmp pvVar pvC) (fun hb4 => ?_) (fun hb4 => ?_)
    · rw [decide_eq_true_eq] at hb4
      obtain rfl : q = 15 := by omega
      have hrw := R.row (z := (64, 0, 1000000000)) rfl
      exact ⟨_, rfl, _, rfl, a, d, h, pr, row, rfl, hpr, x, hg, hrw.2, k⟩
    rw [decide_eq_false_iff_not] at hb4
    refine ifS (pvCmp pvVar pvC) (fun hb5 => ?_) (fun hb5 => ?_)
    · rw [decide_eq_true_eq] at hb5
      obtain rfl : q = 16 := by omega
      obtain ⟨n0, n1, _⟩ := R.num 0 (1, 8) rfl
      obtain ⟨m0, m1, _⟩ := R.num 1 (1, 8) rfl
      exact ⟨_, rfl, _, rfl, pn, _, _, _, rfl, rfl, SqL.of hpn, at0 n0, _, rfl, pn, _, _, _, rfl, rfl, SqL.of hpn, at1 m0, a, d, h, _, _, rfl, x, hg, ⟨n1, m1⟩, k⟩
    rw [decide_eq_false_iff_not] at hb5
    refine ifS (pvCmp pvVar pvC) (fun hb6 => ?_) (fun hb6 => ?_)
    · rw [decide_eq_true_eq] at hb6
      obtain rfl : q = 17 := by omega
      obtain ⟨n0, _, _⟩ := R.num 0 (0, 10000000000) rfl
      exact ⟨_, rfl, _, rfl, pn, _, _, _, rfl, rfl, SqL.of hpn, at0 n0, a, d, h, _, rfl, x, hg, trivial, k⟩
    rw [decide_eq_false_iff_not] at hb6
    refine ifS (pvCmp pvVar pvC) (fun hb7 => ?_) (fun hb7 => ?_)
    · rw [decide_eq_true_eq] at hb7
      obtain rfl : q = 18 := by omega
      obtain ⟨n0, n1, _⟩ := R.num 0 (1, 8) rfl
      exact ⟨_, rfl, _, rfl, pn, _, _, _, rfl, rfl, SqL.of hpn, at0 n0, a, d, h, _, rfl, x, hg, n1, k⟩
    rw [decide_eq_false_iff_not] at hb7
    refine ifS (pvCmp pvVar pvC) (fun hb8 => ?_) (fun hb8 => ?_)
    · rw [decide_eq_true_eq] at hb8
      obtain rfl : q = 19 := by omega
      obtain ⟨n0, n1, _⟩ := R.num 0 (1, 8) rfl
      exact ⟨_, rfl, _, rfl, pn, _, _, _, rfl, rfl, SqL.of hpn, at0 n0, a, d, h, _, rfl, x, hg, n1, k⟩
    rw [decide_eq_false_iff_not] at hb8
    obtain rfl : q = 20 := by omega
    exact ⟨_, rfl, a, d, h, rfl, x, hg, k⟩
abbrev sAnswer : Stmt := top 45
abbrev nAnswer : List Str := ["house", "call"]
theorem scAnswer : FnScope nAnswer ["house", "call"] (defScope sAnswer) := ⟨rfl, rfl, rfl, by decide +kernel, rfl, by decide +kernel, by decide +kernel⟩
def spAnswer (C CC : Addr) : Sp := fun vs H Q _ => ∃ (a ca : Addr) (d : HAd) (h : HS) (q : Nat) (pn pr : Addr) (nums row : List Int) (e : Int), vs = [.ref a, .ref ca] ∧ HAt C H a d h ∧ HGood h ∧ CallAt CC H ca q pn pr e ∧ LI H pn nums ∧ LI H pr row ∧ pr ≠ d.pn ∧ q < 21 ∧
  nums.length = ((ranges[q]?).getD []).length ∧ MEnd C H a d (mAnswer h q nums row) Q
theorem mend_same {C : Addr} {H : Hp} {a : Addr} {d : HAd} {h : HS} {r : List Int} {Q : VK} (k : MEnd C H a d (h, r) Q) (x : HAt C H a d h) : ∀ (p : Addr) (H' : Hp), Same H H' → LI H' p r → Q (.ref p) H' := fun p H' s hp => k p H' d (x.same s) hp (MKeep.same s)
theorem mend_more {C : Addr} {H H1 : Hp} {a : Addr} {d : HAd} {r : HS × List Int} {Q : VK} (k : MEnd C H a d r Q) (s : Same H H1) : MEnd C H1 a d r Q := fun p H' d' x' hp K => k p H' d' x' hp ⟨fun b o e z1 z2 z3 z4 => K.kp b o (s b o e) z1 z2 z3 z4, K.nb.imp id s.free, K.nn.imp id s.free, K.nr.imp id s.free⟩
theorem ok_answer {f : Addr} {fd : FuncData} (F : Fun K "answer" "answer" sAnswer f fd) (T : HC K C) (TC : CCl K CC) (C1 : Cal P w K mg base 2 "call_within" ["call"] (spCallIn CC)) (C2 : Cal P w K mg base 3 "change" ["house", "number", "numbers", "row"] (spChange C))
    (C3 : Cal P w K mg base 9 "show" ["house", "number"] (spShow C)) (C4 : Cal P w K mg base 9 "ask" ["house", "number", "numbers", "row"] (spAsk C)) : FnOk P w K mg base CX0 10 f fd ["house", "call"] (spAnswer C CC) := by
  refine F.ok scAnswer (fun vs H Q E h => ?_) (fun cdv A outer s H vs Q E hr h => ?_)
  · obtain ⟨a, ca, d, h, q, pn, pr, nums, row, e, rfl, _⟩ := h
    rfl
  · obtain ⟨a, ca, d, h, q, pn, pr, nums, row, e, rfl, x, hg, ⟨dx, hca⟩, hpn, hpr, hne, hq, hl, k⟩ := h
    have hr2 : Room 2 _ := hr.mono (by decide : 2 ≤ 9)
    have hr3 : Room 3 _ := hr.mono (by decide : 3 ≤ 9)
    refine ⟨_, pss_cons (ps_if (pt_not (pt_val (pcall C1 hr2 rfl (pa_cons (pv 1) pa_nil)))) (pss_one (ps_ret (pe_lst (pa_cons (pe_un un_neg pe_int) pa_nil)))) pss_nil)
      (pss_cons (ps_if (PW.pt (pw_and (pt_cmp (pc_neI (pe_fld (pv 1) rfl) pe_int)) (pw_and1 (pt_not (pt_val (pe_fld (pv 0) rfl)))))) (pss_one (ps_ret (pe_lst (pa_cons (pe_un un_neg pe_int) pa_nil)))) pss_nil)
      (pss_cons (ps_if (pt_cmp (pc_le (pe_fld (pv 1) rfl) pe_int)) (pss_one (ps_ret (pcall C2 hr3 rfl (pa_cons (pv 0) (pa_cons (pe_fld (pv 1) rfl) (pa_cons (pe_fld (pv 1) rfl) (pa_cons (pe_fld (pv 1) rfl) pa_nil))))))) pss_nil)
      (pss_cons (ps_if (pt_cmp (pc_le (pe_fld (pv 1) rfl) pe_int)) (pss_one (ps_ret (pcall C3 hr rfl (pa_cons (pv 0) (pa_cons (pe_fld (pv 1) rfl) pa_nil))))) pss_nil)
      (pss_one (ps_ret (pcall C4 hr rfl (pa_cons (pv 0) (pa_cons (pe_fld (pv 1) rfl) (pa_cons (pe_fld (pv 1) rfl) (pa_cons (pe_fld (pv 1) rfl) pa_nil)))))))))), ?_⟩
    refine ⟨_, rfl, ca, pn, pr, q, nums, row, e, rfl, ⟨dx, hca⟩, hpn, hpr, hq, fun H1 s1 => ⟨_, rfl, ?_⟩⟩
    have x1 := x.same s1
    have hca1 := s1 _ _ hca
    have k1 := mend_more k s1
    cases hci : callIn q nums row with
    | false =>
      refine iteT ?_
      obtain ⟨e1, e2⟩ := mend_no k1 x1 (z := -1) (by unfold mAnswer; rw [if_pos hci])
      exact ⟨_, rfl, e1, e2⟩
    | true =>
      refine iteF ?_
      have c0 : ¬ callIn q nums row = false := by rw [hci]; intro z; cases z
      have pvNum : ∀ σ : St, σ[1]? = some (some (.ref ca)) → PvE (tFld K (tVar 1) "number") σ H1 (.int q) := fun σ hσ => pvFld (pvVar hσ) hca1 TC.cl TC.number (cf_number ..)
      refine ifS (pvAnd (pvCmp (pvNum _ rfl) pvC) (fun _ => pvNot (pvB (pvBegun T x1 pvVar)))) (fun hb => ?_) (fun hb => ?_)
      · rw [Bool.and_eq_true, Bool.not_eq_true', decide_eq_false_iff_not, Bool.not_eq_true'] at hb
        obtain ⟨e1, e2⟩ := mend_no k1 x1 (z := -2) (by unfold mAnswer; rw [if_neg c0, if_pos ⟨fun z => hb.1 (by rw [z]; rfl), hb.2⟩])
        exact ⟨_, rfl, e1, e2⟩
      · have c1 : ¬ (q ≠ 0 ∧ h.begun = false) := fun ⟨z1, z2⟩ => by
          rw [z2, Bool.not_false, Bool.and_true, Bool.not_eq_false', decide_eq_true_eq] at hb
          omega
        have R : InR q nums row := ⟨hci, hl⟩
        have eA : mAnswer h q nums row = if q ≤ 6 then mChange h q nums row else if q ≤ 10 then (h, gShow h q) else (h, gAsk h q nums row) := by unfold mAnswer; rw [if_neg c0, if_neg c1]
        refine ifS (pvCmp (pvNum _ rfl) pvC) (fun hb1 => ?_) (fun hb1 => ?_)
        · rw [decide_eq_true_eq] at hb1
          have h6 : q ≤ 6 := by omega
          rw [eA, if_pos h6] at k1
          exact ⟨_, rfl, _, rfl, ca, CC, dx, _, _, rfl, hca1, TC.cl, TC.number, cf_number .., _, rfl, ca, CC, dx, _, _, rfl, hca1, TC.cl, TC.numbers, cf_numbers .., _, rfl, ca, CC, dx, _, _, rfl, hca1, TC.cl, TC.row, cf_row .., a, d, h, q, pn, pr, nums, row, rfl, x1, hg, s1 _ _ hpn, s1 _ _ hpr, hne, h6, R, k1⟩
        · rw [decide_eq_false_iff_not] at hb1
          rw [eA, if_neg (by omega)] at k1
          refine ifS (pvCmp (pvNum _ rfl) pvC) (fun hb2 => ?_) (fun hb2 => ?_)
          · rw [decide_eq_true_eq] at hb2
            rw [if_pos (by omega)] at k1
            exact ⟨_, rfl, _, rfl, ca, CC, dx, _, _, rfl, hca1, TC.cl, TC.number, cf_number .., a, d, h, q, rfl, x1, hg, mend_same k1 x1⟩
          · rw [decide_eq_false_iff_not] at hb2
            rw [if_neg (by omega)] at k1
            exact ⟨_, rfl, _, rfl, ca, CC, dx, _, _, rfl, hca1, TC.cl, TC.number, cf_number .., _, rfl, ca, CC, dx, _, _, rfl, hca1, TC.cl, TC.numbers, cf_numbers .., _, rfl, ca, CC, dx, _, _, rfl, hca1, TC.cl, TC.row, cf_row .., a, d, h, q, pn, pr, nums, row, rfl, x1, hg, s1 _ _ hpn, s1 _ _ hpr, by omega, by omega, R, mend_same k1 x1⟩
end
end Hs
end
section
set_option Elab.async false
set_option linter.all false
set_option maxRecDepth 100000
set_option maxHeartbeats 4000000
namespace Hs
open PySem PySem.Spec
open PyProof.Rows hiding St
open L2
def mStep (h : HS) (c : List (List Int)) : HS × List Int := match c with
  | (q :: nums) :: rows => mAnswer h q.toNat nums (rows.headD [])
  | _ => (h, [])
def Fz (K : PySem.W.Frag) (H : Hp) (a : Addr) (xs : List V) : Prop := (∃ o, H a = some (.frz o (.lst xs))) ∨
  ∃ (o : Obj) (its : Array Value) (n : Nat), K.lookup a = some o ∧ o.cls = .type "list" ∧ o.dict = none ∧ o.data = .seq its n ∧ its.size ≤ sizeLine ∧ Vals xs its.toList
theorem Fz.sq {K : PySem.W.Frag} {H : Hp} {a : Addr} {xs : List V} (h : Fz K H a xs) : SqL K H a xs := by
  rcases h with ⟨o, h⟩ | h
  · exact .inl (.inr ⟨o, h⟩)
  · exact .inr h
theorem Fz.keep {K : PySem.W.Frag} {H H' : Hp} {a : Addr} {xs : List V} (h : Fz K H a xs) (k : ∀ o, H a = some (.frz o (.lst xs)) → H' a = some (.frz o (.lst xs))) : Fz K H' a xs := by
  rcases h with ⟨o, h⟩ | h
  · exact .inl ⟨o, k o h⟩
  · exact .inr h
section
variable {P : Program} {w : World} {K : PySem.W.Frag} {mg : Str → Option Value} {base : Heap} {C CC : Addr}
abbrev sAnswers : Stmt := top 46
abbrev nAnswers : List Str := ["calls", "house", "answered", "start", "call", "numbers"]
theorem scAnswers : FnScope nAnswers ["calls"] (defScope sAnswers) := ⟨rfl, rfl, rfl, by decide +kernel, rfl, by decide +kernel, by decide +kernel⟩
def spAnswers (K : PySem.W.Frag) : Sp := fun vs H Q _ => ∃ (cp : Addr) (cs : List Int) (all : List (List (List Int))), vs = [.ref cp] ∧ Fz K H cp (cs.map V.int) ∧ cs.length ≤ 16000 ∧ PyFlat.calls PyVbemat.shape cs.length cs = some all ∧
  ∀ (H' : Hp) (p : Addr), H' p = some (.lst ((PyFlat.told (PyFlat.played mStep h0 all)).map V.int)) → Q (.ref p) H'
theorem told_cons (a : List Int) (r : List (List Int)) : PyFlat.told (a :: r) = ((a.length : Int) :: a) ++ PyFlat.told r := rfl
theorem played_cons (h : HS) (c : List (List Int)) (r : List (List (List Int))) : PyFlat.played mStep h (c :: r) = (mStep h c).2 :: PyFlat.played mStep (mStep h c).1 r := rfl
theorem ok_answers {f : Addr} {fd : FuncData} (F : Fun K "answers" "answers" sAnswers f fd) (B : Bi mg) (T : HC K C) (TC : CCl K CC) (M : Mkr P w K mg base 1 "House" C ["self"] (spHInit C)) (C1 : Cal P w K mg base 3 "read_call" ["calls", "start"] (spRead K CC)) (C2 : Cal P w K mg base 10 "answer" ["house", "call"] (spAnswer C CC))
    (gd0 : HGood h0) (gd : ∀ h q nums row, HGood h → q < 21 → nums.length = ((ranges[q]?).getD []).length → HGood (mAnswer h q nums row).1) (ln : ∀ h q nums row, HGood h → (mAnswer h q nums row).2.length ≤ 100) :
    FnOk P w K mg base CX0 11 f fd ["calls"] (spAnswers K) := by
  refine F.ok scAnswers (fun vs H Q E h => ?_) (fun cdv A outer s H vs Q E hr h => ?_)
  · obtain ⟨cp, cs, all, rfl, _⟩ := h
    rfl
  · obtain ⟨cp, cs, all, rfl, hcp, hcl, hall, k⟩ := h
    have nd := scAnswers.nd
    have hr2 : Room 2 _ := hr.mono (by decide : 2 ≤ 10)
    have hr3 : Room 3 _ := hr.mono (by decide : 3 ≤ 10)
    refine ⟨_, pss_cons (ps_set (i := 1) nd rfl (Or.inl rfl) (pmake0 M hr2 rfl))
      (pss_cons (ps_set (i := 2) nd rfl (Or.inl rfl) (pe_lst pa_nil))
      (pss_cons (ps_set (i := 3) nd rfl (Or.inl rfl) pe_int)
      (pss_cons (ps_while PassesOwn.never (pt_cmp (pc_lt (pv 3) (pe_callB call_len_seq rfl B.len bt_len (pa_cons (pv 0) pa_nil))))
        (pss_cons (ps_set (i := 4) nd rfl (Or.inl rfl) (pcall C1 hr3 rfl (pa_cons (pv 0) (pa_cons (pv 3) pa_nil))))
        (pss_cons (ps_lock (ps_set (i := 5) nd rfl (Or.inl rfl) (pcall C2 hr rfl (pa_cons (pv 1) (pa_cons (pv 4) pa_nil)))))
        (pss_cons (ps_expr (pe_bm PySem.F.plainAttrs_list PySem.F.slot_list_append PySem.F.type_list_append mt_append (pv 2) (pa_cons (pe_callB call_len_seq rfl B.len bt_len (pa_cons (pv 5) pa_nil)) pa_nil)))
        (pss_cons (ps_expr (pe_bm PySem.F.plainAttrs_list PySem.F.slot_list_extend PySem.F.type_list_extend mt_extend (pv 2) (pa_cons (pv 5) pa_nil)))
        (pss_one (ps_set (i := 3) nd rfl (Or.inl rfl) (pe_fld (pv 4) rfl))))))))
      (pss_one (ps_ret (pv 2)))))), ?_⟩
    intro ha dx hha hdx hne
    refine ⟨ha, dx, rfl, upd_same, fun H1 d x1 k1 f1 f2 f3 => ⟨rfl, ?_⟩⟩
    have s1 : Same H H1 := Same.made hha hdx k1
    refine ⟨Nat.zero_le _, fun an han => ?_⟩
    have s2 := Sm.one (o := .lst []) han
    have x2 := x1.same s2
    have ap : an ≠ ha ∧ an ≠ d.pb ∧ an ≠ d.pn ∧ an ≠ d.pr ∧ an ∉ d.rs := ⟨(ne_of_none x1.ins han).symm, (ne_of_none x1.b han).symm, (ne_of_none x1.n han).symm, (ne_of_none x1.r han).symm, fun z => by have e := x1.rl; rw [List.length_eq_zero_iff.mp e] at z; simp at z⟩
    refine whileP (fun m σ H' => ∃ (start : Nat) (d : HAd) (h : HS) (out : List Int) (rest : List (List (List Int))) (fu : Nat) (v4 v5 : Option V), σ = [some (.ref cp), some (.ref ha), some (.ref an), some (.int (start : Nat)), v4, v5] ∧
        Fz K H' cp (cs.map V.int) ∧ HAt C H' ha d h ∧ HGood h ∧ LI H' an out ∧ (an ≠ ha ∧ an ≠ d.pb ∧ an ≠ d.pn ∧ an ≠ d.pr ∧ an ∉ d.rs) ∧ start ≤ cs.length ∧ PyFlat.calls PyVbemat.shape fu (cs.drop start) = some rest ∧
        PyFlat.told (PyFlat.played mStep h0 all) = out ++ PyFlat.told (PyFlat.played mStep h rest) ∧ out.length ≤ 101 * start ∧ m = cs.length - start)
      ⟨_, 0, d, h0, [], all, cs.length, none, none, rfl, hcp.keep fun o e => s2 _ _ (s1 _ _ e), x2, gd0, upd_same, ap, Nat.zero_le _, hall, rfl, Nat.zero_le _, rfl⟩ ?_
    rintro m σ H3 ⟨start, d, h, out, rest, fu, v4, v5, rfl, hcp3, x3, hg, han3, ⟨ap0, ap1, ap2, ap3, ap4⟩, hst, hcalls, htold, hol, rfl⟩
    refine ⟨_, pvCmp (j := ((cs.map V.int).length : Nat)) pvVar (fun _ q => ⟨_, rfl, cp, _, rfl, .inl hcp3.sq, q⟩), fun hb => ?_, fun hb => ?_⟩
    · rw [decide_eq_true_eq, List.length_map] at hb
      have hsl : start < cs.length := by omega
      have hne0 : cs.drop start ≠ [] := fun z => by
        have := congrArg List.length z
        rw [List.length_drop] at this
        have : cs.length - start = 0 := this
        omega
      obtain ⟨p, r, hpr⟩ := List.exists_cons_of_ne_nil hne0
      cases fu with
      | zero => rw [hpr] at hcalls; cases hcalls
      | succ fu =>
        rw [hpr] at hcalls
        simp only [PyFlat.calls] at hcalls
        cases hcall : PyFlat.call PyVbemat.shape (p :: r) with
        | none => rw [hcall] at hcalls; cases hcalls
        | some ct =>
          obtain ⟨c, t⟩ := ct
          rw [hcall] at hcalls
          simp only at hcalls
          cases hrest : PyFlat.calls PyVbemat.shape fu t with
          | none => rw [hrest] at hcalls; cases hcalls
          | some rest' =>
            rw [hrest] at hcalls
            simp only at hcalls
            cases hcalls
            obtain ⟨q, nums, row, hhead, ec⟩ := call_head hcall
            have hhd := hhead
            rw [← hpr] at hhead
            refine ⟨_, rfl, _, rfl, cp, cs, start, q, nums, row, t, rfl, hcp3.sq, hcl, hhead, fun ca pn pr H4 s4 hca0 hpn0 hpr0 hca hpn hprow => ?_⟩
            have han4 := s4 _ _ han3
            refine ⟨an, _, han4, trivial, fun od => ?_⟩
            have kl : ∀ b o, H4 b = some o → b ≠ an → (upd H4 an (.frz od (.lst (out.map V.int)))) b = some o := fun b o e z => by rw [upd_ne z]; exact e
            have hanL : (upd H4 an (.frz od (.lst (out.map V.int)))) an = some (.frz od (.lst (out.map V.int))) := upd_same
            generalize (upd H4 an (.frz od (.lst (out.map V.int)))) = HL at kl hanL
            have x4' := x3.same s4
            have x4 : HAt C HL ha d h := ⟨kl _ _ x4'.ins (Ne.symm ap0), kl _ _ x4'.b (Ne.symm ap1), kl _ _ x4'.n (Ne.symm ap2), kl _ _ x4'.r (Ne.symm ap3), x4'.rl, fun j pp roww q1 q2 => kl _ _ (x4'.rows j pp roww q1 q2) (fun z => ap4 (by rw [← z]; exact List.mem_of_getElem? q1)), x4'.bn, x4'.br, x4'.nr, x4'.ns⟩
            have apc : ca ≠ ha ∧ ca ≠ d.pb ∧ ca ≠ d.pn ∧ ca ≠ d.pr ∧ ca ≠ an := ⟨(ne_of_none x3.ins hca0).symm, (ne_of_none x3.b hca0).symm, (ne_of_none x3.n hca0).symm, (ne_of_none x3.r hca0).symm, (ne_of_none han3 hca0).symm⟩
            obtain ⟨cdx, hca4'⟩ := hca
            have hca4 := kl _ _ hca4' apc.2.2.2.2
            have hpran : pr ≠ an := (ne_of_none han3 hpr0).symm
            have hpnan : pn ≠ an := (ne_of_none han3 hpn0).symm
            refine ⟨_, rfl, _, rfl, ha, ca, d, h, q, pn, pr, nums, row, _, rfl, x4, hg, ⟨cdx, hca4⟩, kl _ _ hpn hpnan, kl _ _ hprow hpran, (ne_of_none x3.n hpr0).symm, hhd.1, hhd.2.1, fun nq H5 d5 x5 hnq K5 => ?_⟩
            have hanL5 := K5.kp _ _ hanL ap0 ap1 ap2 ap3
            refine ⟨hanL5, ?_⟩
            have estep : mStep h c = mAnswer h q nums row := by
              subst ec
              cases hb2 : (rowsOf q).isSome with
              | true => rw [if_pos rfl]; rfl
              | false =>
                rw [if_neg Bool.false_ne_true]
                rcases hhd.2.2 with ⟨_, e, _⟩ | ⟨e, _⟩
                · rw [e]; rfl
                · rw [hb2] at e; cases e
            rw [← estep] at x5 hnq
            have hg5 : HGood (mStep h c).1 := by rw [estep]; exact gd h q nums row hg hhd.1 hhd.2.1
            have hl5 : (mStep h c).2.length ≤ 100 := by rw [estep]; exact ln h q nums row hg
            have hca5 := K5.kp _ _ hca4 apc.1 apc.2.1 apc.2.2.1 apc.2.2.2.1
            have hcp5 : Fz K H5 cp (cs.map V.int) := hcp3.keep fun o e => K5.kp _ _ (kl _ _ (s4 _ _ e) (ne_of e han3 (by intro z; cases z))) (ne_of e x3.ins (by intro z; cases z)) (ne_of e x3.b (by intro z; cases z)) (ne_of e x3.n (by intro z; cases z)) (ne_of e x3.r (by intro z; cases z))
            have ap5 : an ≠ ha ∧ an ≠ d5.pb ∧ an ≠ d5.pn ∧ an ≠ d5.pr ∧ an ∉ d5.rs := by
              refine ⟨ap0, ne_of hanL5 x5.b (by intro z; cases z), ne_of hanL5 x5.n (by intro z; cases z), ne_of hanL5 x5.r (by intro z; cases z), fun z => ?_⟩
              obtain ⟨j, hj⟩ := List.getElem?_of_mem z
              have hjr : j < (mStep h c).1.rooms.length := by rw [← x5.rl]; exact (List.getElem?_eq_some_iff.mp hj).1
              exact ne_of hanL5 (x5.rows j an _ hj (List.getElem?_eq_getElem hjr)) (by intro z; cases z) rfl
            have hnan : nq ≠ an := (ne_of hanL5 hnq (by intro z; cases z)).symm
            have hanU : (upd H5 an (.lst (out.map V.int))) an = some (.lst (out.map V.int)) := upd_same
            have kU : ∀ b o, H5 b = some o → b ≠ an → (upd H5 an (.lst (out.map V.int))) b = some o := fun b o e z => by rw [upd_ne z]; exact e
            have x5' := x5
            have hnq' := kU _ _ hnq hnan
            have hca5' := kU _ _ hca5 apc.2.2.2.2
            have han5 : LI (upd H5 an (.lst (out.map V.int))) an out := upd_same
            have hcp5' : Fz K (upd H5 an (.lst (out.map V.int))) cp (cs.map V.int) := hcp3.keep fun o e => kU _ _ (K5.kp _ _ (kl _ _ (s4 _ _ e) (ne_of e han3 (by intro z; cases z))) (ne_of e x3.ins (by intro z; cases z)) (ne_of e x3.b (by intro z; cases z)) (ne_of e x3.n (by intro z; cases z)) (ne_of e x3.r (by intro z; cases z))) (ne_of e han3 (by intro z; cases z))
            have x5 : HAt C (upd H5 an (.lst (out.map V.int))) ha d5 (mStep h c).1 := ⟨kU _ _ x5'.ins (Ne.symm ap5.1), kU _ _ x5'.b (Ne.symm ap5.2.1), kU _ _ x5'.n (Ne.symm ap5.2.2.1), kU _ _ x5'.r (Ne.symm ap5.2.2.2.1), x5'.rl, fun j pp roww q1 q2 => kU _ _ (x5'.rows j pp roww q1 q2) (fun z => ap5.2.2.2.2 (by rw [← z]; exact List.mem_of_getElem? q1)), x5'.bn, x5'.br, x5'.nr, x5'.ns⟩
            clear hcp5 hca5 hnq
            have hnq := hnq'
            have hca5 := hca5'
            have hcp5 := hcp5'
            clear hnq' hca5' hcp5' x5' kU hanU
            generalize (upd H5 an (.lst (out.map V.int))) = H5 at han5 hnq hca5 hcp5 x5
            have hsmall : out.length + 200 < 16777216 := by omega
            have hsz : sizeLine = 16777216 := sizeLine_eq
            refine ⟨_, rfl, .inl ⟨rfl, _, SqL.of han5⟩, _, rfl, nq, _, rfl, .inl (SqL.of hnq), an, _, _, rfl, rfl, han5, (by rw [List.length_map, hsz]; omega), ?_⟩
            have han6 : (upd H5 an (.lst (out.map V.int ++ [V.int (((mStep h c).2.map V.int).length : Nat)]))) an = some (.lst ((out ++ [((mStep h c).2.length : Int)]).map V.int)) := upd_same.trans (by rw [List.map_append, List.length_map]; rfl)
            have k6 : ∀ b o, H5 b = some o → b ≠ an → (upd H5 an (.lst (out.map V.int ++ [V.int (((mStep h c).2.map V.int).length : Nat)]))) b = some o := fun b o e z => by rw [upd_ne z]; exact e
            generalize (upd H5 an (.lst (out.map V.int ++ [V.int (((mStep h c).2.map V.int).length : Nat)]))) = H6 at han6 k6
            have hnq6 := k6 _ _ hnq hnan
            refine ⟨_, rfl, .inl ⟨rfl, _, SqL.of han6⟩, _, rfl, an, nq, _, _, rfl, rfl, han6, hnq6, (by rw [List.length_map, List.length_map, List.length_append, hsz]; show out.length + 1 + _ ≤ _; omega), ?_⟩
            have k7 : ∀ b o, H6 b = some o → b ≠ an → (upd H6 an (.lst ((out ++ [((mStep h c).2.length : Int)]).map V.int ++ (mStep h c).2.map V.int))) b = some o := fun b o e z => by rw [upd_ne z]; exact e
            have k57 : ∀ b o, H5 b = some o → b ≠ an → (upd H6 an (.lst ((out ++ [((mStep h c).2.length : Int)]).map V.int ++ (mStep h c).2.map V.int))) b = some o := fun b o e z => k7 b o (k6 b o e z) z
            refine ⟨_, rfl, ca, CC, cdx, _, _, rfl, k57 _ _ hca5 apc.2.2.2.2, TC.cl, TC.end_, cf_end .., ?_⟩
            have htl : t.length < cs.length - start := by
              have e1 : (cs.drop start).length = cs.length - start := List.length_drop
              rcases hhead.2.2 with ⟨_, _, e⟩ | ⟨_, e⟩
              · rw [e] at e1
                simp only [List.length_cons, List.length_append] at e1
                omega
              · rw [e] at e1
                simp only [List.length_cons, List.length_append] at e1
                omega
            have hdrop : cs.drop (cs.length - t.length) = t := by
              rcases hhead.2.2 with ⟨_, _, e⟩ | ⟨_, e⟩
              · have e' : cs.drop start = ((q : Int) :: nums) ++ t := e
                have e2 := drop_app e'
                have e3 := congrArg List.length e2
                rw [List.length_drop] at e3
                have e4 : start + ((q : Int) :: nums).length = cs.length - t.length := by
                  have e1 := congrArg List.length e'
                  rw [List.length_drop, List.length_append] at e1
                  omega
                rw [← e4]; exact e2
              · have e' : cs.drop start = ((q : Int) :: (nums ++ ((row.length : Int) :: row))) ++ t := by rw [e]; simp
                have e2 := drop_app e'
                have e4 : start + ((q : Int) :: (nums ++ ((row.length : Int) :: row))).length = cs.length - t.length := by
                  have e1 := congrArg List.length e'
                  rw [List.length_drop, List.length_append] at e1
                  omega
                rw [← e4]; exact e2
            refine ⟨_, ?_, cs.length - t.length, d5, (mStep h c).1, out ++ ((mStep h c).2.length : Int) :: (mStep h c).2, rest', fu, _, _, rfl, ?_, ?_, hg5, ?_, ap5, Nat.sub_le _ _, by rw [hdrop]; exact hrest, ?_, ?_, rfl⟩
            · omega
            · exact hcp5.keep fun o e => k57 _ _ e (ne_of e han5 (by intro z; cases z))
            · exact ⟨k57 _ _ x5.ins (Ne.symm ap5.1), k57 _ _ x5.b (Ne.symm ap5.2.1), k57 _ _ x5.n (Ne.symm ap5.2.2.1), k57 _ _ x5.r (Ne.symm ap5.2.2.2.1), x5.rl, fun j pp roww q1 q2 => k57 _ _ (x5.rows j pp roww q1 q2) (fun z => ap5.2.2.2.2 (by rw [← z]; exact List.mem_of_getElem? q1)), x5.bn, x5.br, x5.nr, x5.ns⟩
            · exact upd_same.trans (by rw [List.map_append, List.map_append, List.append_assoc]; rfl)
            · rw [htold, played_cons, told_cons, List.append_assoc]
            · rw [List.length_append, List.length_cons]
              omega
    · rw [decide_eq_false_iff_not, List.length_map] at hb
      have e : start = cs.length := by omega
      subst e
      rw [List.drop_length] at hcalls
      have er : rest = [] := by cases fu <;> · simp [PyFlat.calls] at hcalls; exact hcalls.symm ▸ rfl
      subst er
      rw [show PyFlat.told (PyFlat.played mStep h []) = [] from rfl, List.append_nil] at htold
      refine ⟨_, rfl, k H3 an ?_⟩
      rw [htold]; exact han3
end
end Hs
end
section
set_option Elab.async false
set_option linter.all false
set_option maxRecDepth 100000
set_option maxHeartbeats 4000000
namespace Hs
open Vbemat (nth setAt mapAt Load)
def zl (ns : List Int) (rs : List (List Int)) : List Load := (ns.zip rs).map fun y => ⟨y.1, y.2⟩
theorem loadsOf_zl (h : HS) : loadsOf h = zl h.needs h.rooms := rfl
theorem zl_len {ns : List Int} {rs : List (List Int)} (h : ns.length = rs.length) : (zl ns rs).length = ns.length := by
  unfold zl
  rw [List.length_map, List.length_zip]
  omega
theorem zl_snoc {ns : List Int} {rs : List (List Int)} (h : ns.length = rs.length) (a : Int) (r : List Int) : zl (ns ++ [a]) (rs ++ [r]) = zl ns rs ++ [⟨a, r⟩] := by
  unfold zl
  rw [List.zip_append h, List.map_append]
  rfl
theorem zl_at : ∀ (ns : List Int) (rs : List (List Int)) (i : Nat) (y : Load), (zl ns rs)[i]? = some y → nth ns i = y.need ∧ (rs[i]?).getD [] = y.rooms
  | [], _, i, y, h => by simp [zl] at h
  | _ :: _, [], i, y, h => by simp [zl] at h
  | a :: ns, r :: rs, 0, y, h => by
    have h : (some (⟨a, r⟩ : Load)) = some y := h
    cases h
    exact ⟨rfl, rfl⟩
  | a :: ns, r :: rs, i + 1, y, h => zl_at ns rs i y h
theorem zl_need (x : Int) : ∀ (ns : List Int) (rs : List (List Int)) (i : Nat), zl (setAt x i ns) rs = mapAt (fun y => { y with need := x }) i (zl ns rs)
  | [], rs, i => by cases i <;> rfl
  | a :: ns, [], 0 => rfl
  | a :: ns, [], i + 1 => rfl
  | a :: ns, r :: rs, 0 => rfl
  | a :: ns, r :: rs, i + 1 => by
    show (⟨a, r⟩ : Load) :: zl (setAt x i ns) rs = ⟨a, r⟩ :: mapAt _ i (zl ns rs)
    rw [zl_need x ns rs i]
theorem zl_room (row : List Int) : ∀ (ns : List Int) (rs : List (List Int)) (i : Nat), i < ns.length → i < rs.length → zl ns (rs.set i row) = mapAt (fun _ => ⟨nth ns i, row⟩) i (zl ns rs)
  | [], _, _, h, _ => absurd h (Nat.not_lt_zero _)
  | _ :: _, [], _, _, h => absurd h (Nat.not_lt_zero _)
  | a :: ns, r :: rs, 0, _, _ => rfl
  | a :: ns, r :: rs, i + 1, h, k => by
    show (⟨a, r⟩ : Load) :: zl ns (rs.set i row) = ⟨a, r⟩ :: mapAt (fun _ => ⟨nth ns i, row⟩) i (zl ns rs)
    rw [zl_room row ns rs i (by simpa using h) (by simpa using k)]
theorem zl_rooms (g : List Int → List Int) : ∀ (ns : List Int) (rs : List (List Int)), zl ns (rs.map g) = (zl ns rs).map fun x => { x with rooms := g x.rooms }
  | [], rs => by cases rs <;> rfl
  | a :: ns, [] => rfl
  | a :: ns, r :: rs => by
    show (⟨a, g r⟩ : Load) :: zl ns (rs.map g) = ⟨a, g r⟩ :: (zl ns rs).map _
    rw [zl_rooms g ns rs]
theorem zl_pass : ∀ (ns : List Int) (rs : List (List Int)) (gs : List Int), gs.length = ns.length → ns.length = rs.length →
    zl ((ns.zip gs).map fun z => z.1 - z.2) (rs.map fun r => r.drop 1) = (gs.zip (zl ns rs)).map fun y => ⟨y.2.need - y.1, y.2.rooms.drop 1⟩
  | [], rs, gs, h, k => by
    have : gs = [] := List.length_eq_zero_iff.mp h
    subst this; rfl
  | a :: ns, [], gs, h, k => by simp at k
  | a :: ns, r :: rs, [], h, k => by simp at h
  | a :: ns, r :: rs, g :: gs, h, k => by
    show (⟨a - g, r.drop 1⟩ : Load) :: zl ((ns.zip gs).map fun z => z.1 - z.2) (rs.map fun r => r.drop 1) = ⟨a - g, r.drop 1⟩ :: (gs.zip (zl ns rs)).map _
    rw [zl_pass ns rs gs (by simpa using h) (by simpa using k)]
theorem zip_swap {α β γ : Type} (f : α → β → γ) : ∀ (l : List α) (m : List β), (l.zip m).map (fun y => f y.1 y.2) = (m.zip l).map (fun y => f y.2 y.1)
  | [], m => by cases m <;> rfl
  | a :: l, [] => rfl
  | a :: l, b :: m => by
    show f a b :: (l.zip m).map _ = f a b :: (m.zip l).map _
    rw [zip_swap f l m]
theorem mem_mapAt {α : Type} (g : α → α) : ∀ (l : List α) (i : Nat) (x : α), x ∈ mapAt g i l → x ∈ l ∨ ∃ y, l[i]? = some y ∧ x = g y
  | [], i, x, h => by cases i <;> simp [mapAt] at h
  | a :: l, 0, x, h => by
    rcases List.mem_cons.mp (show x ∈ g a :: l from h) with e | e
    · exact .inr ⟨a, rfl, e⟩
    · exact .inl (List.mem_cons_of_mem _ e)
  | a :: l, i + 1, x, h => by
    rcases List.mem_cons.mp (show x ∈ a :: mapAt g i l from h) with e | e
    · exact .inl (e ▸ List.mem_cons_self)
    · rcases mem_mapAt g l i x e with z | ⟨y, h1, h2⟩
      · exact .inl (List.mem_cons_of_mem _ z)
      · exact .inr ⟨y, h1, h2⟩
theorem len_mapAt {α : Type} (g : α → α) : ∀ (l : List α) (i : Nat), (mapAt g i l).length = l.length
  | [], i => by cases i <;> rfl
  | a :: l, 0 => rfl
  | a :: l, i + 1 => by
    show (mapAt g i l).length + 1 = l.length + 1
    rw [len_mapAt g l i]
theorem mem_setAt (x : Int) : ∀ (l : List Int) (i : Nat) (v : Int), v ∈ setAt x i l → v = x ∨ v ∈ l
  | [], i, v, h => by cases i <;> simp [setAt] at h
  | a :: l, 0, v, h => by
    rcases List.mem_cons.mp (show v ∈ x :: l from h) with e | e
    · exact .inl e
    · exact .inr (List.mem_cons_of_mem _ e)
  | a :: l, i + 1, v, h => by
    rcases List.mem_cons.mp (show v ∈ a :: setAt x i l from h) with e | e
    · exact .inr (e ▸ List.mem_cons_self)
    · rcases mem_setAt x l i v e with z | z
      · exact .inl z
      · exact .inr (List.mem_cons_of_mem _ z)
abbrev LdOk (n : Nat) (x : Load) : Prop := x.rooms.length = n ∧ (∀ r ∈ x.rooms, 0 ≤ r ∧ r ≤ 1000000000) ∧ (0 ≤ x.need ∧ x.need ≤ 1000000000) ∧ x.need ≤ x.rooms.sum
theorem HGood.of {h : HS} (n8 : h.bases.length ≤ 8) (b0 : ∀ b ∈ h.bases, 0 ≤ b ∧ b ≤ 1000000000) (same : h.needs.length = h.rooms.length) (l8 : h.needs.length ≤ 8) (ld : ∀ x ∈ loadsOf h, LdOk h.bases.length x) (new : h.begun = false → h.needs = []) (pas : 0 ≤ h.passed) : HGood h :=
  ⟨⟨n8, rfl, b0, by rw [loadsOf_zl, zl_len same]; exact l8, ld⟩, same, new, pas⟩
theorem good_h0 : HGood h0 := HGood.of (by decide) (by intro b hb; cases hb) rfl (by decide) (by intro x hx; cases hx) (fun _ => rfl) (by decide)
theorem good_begin {h : HS} (g : HGood h) {n : Int} (h1 : n ≤ 8) : HGood (mBegin h n).1 := by
  unfold mBegin
  by_cases c : h.begun = true
  · rw [if_pos c]; exact g
  · rw [if_neg c]
    have e : h.needs = [] := g.new (by simpa using c)
    refine HGood.of (by simp; omega) (fun b hb => ?_) g.same (by rw [e]; decide) (fun x hx => ?_) (fun z => by cases z) g.pas
    · rw [List.eq_of_mem_replicate hb]; decide
    · have hx : x ∈ zl h.needs h.rooms := hx
      rw [e] at hx
      simp [zl] at hx
theorem good_load {h : HS} (g : HGood h) {need : Int} {row : List Int} (hb : h.begun = true) (hn : 0 ≤ need ∧ need ≤ 1000000000) (hr : ∀ v ∈ row, 0 ≤ v ∧ v ≤ 1000000000) : HGood (mLoad h need row).1 := by
  unfold mLoad
  by_cases c : row.length ≠ h.bases.length ∨ row.sum < need
  · rw [if_pos c]; exact g
  · rw [if_neg c]
    by_cases c2 : h.needs.length = 8
    · rw [if_pos c2]; exact g
    · rw [if_neg c2]
      have := g.n8
      refine HGood.of g.b8 g.good.b0 (by simp [g.same]) (by simp; omega) (fun x hx => ?_) (fun z => by rw [hb] at z; cases z) g.pas
      have hx : x ∈ zl (h.needs ++ [need]) (h.rooms ++ [row]) := hx
      rw [zl_snoc g.same] at hx
      rcases List.mem_append.mp hx with z | z
      · exact g.good.ld x z
      · rw [List.mem_singleton] at z
        subst z
        exact ⟨by show row.length = h.bases.length; omega, hr, hn, by show need ≤ row.sum; omega⟩
theorem len_set (x : Int) (l : List Int) (i : Nat) : (setAt x i l).length = l.length := Lev.length_setAt x l i
theorem good_need {h : HS} (g : HGood h) {c x : Int} (hb : h.begun = true) (hx : 0 ≤ x ∧ x ≤ 1000000000) : HGood (mNeed h c x).1 := by
  unfold mNeed
  by_cases c1 : (h.needs.length : Int) < c
  · rw [if_pos c1]; exact g
  · rw [if_neg c1]
    by_cases c2 : (rowAt h (c.toNat - 1)).sum < x
    · rw [if_pos c2]; exact g
    · rw [if_neg c2]
      refine HGood.of g.b8 g.good.b0 (by show (setAt _ _ _).length = _; rw [len_set]; exact g.same) (by show (setAt _ _ _).length ≤ _; rw [len_set]; exact g.n8) (fun y hy => ?_) (fun z => by rw [show h.begun = false from z] at hb; cases hb) g.pas
      have hy : y ∈ zl (setAt x (c.toNat - 1) h.needs) h.rooms := hy
      rw [zl_need] at hy
      rcases mem_mapAt _ _ _ _ hy with z | ⟨u, h1, rfl⟩
      · exact g.good.ld y z
      · obtain ⟨a1, a2, a3, a4⟩ := g.good.ld u (List.mem_of_getElem? h1)
        refine ⟨a1, a2, hx, ?_⟩
        have := (zl_at _ _ _ _ h1).2
        unfold rowAt at c2
        rw [this] at c2
        show x ≤ u.rooms.sum
        omega
theorem good_room {h : HS} (g : HGood h) {c t x : Int} (hb : h.begun = true) (hc : 1 ≤ c) (hx : 0 ≤ x ∧ x ≤ 1000000000) : HGood (mRoom h c t x).1 := by
  unfold mRoom
  by_cases c1 : (h.needs.length : Int) < c
  · rw [if_pos c1]; exact g
  · rw [if_neg c1]
    by_cases c2 : (h.bases.length : Int) < t
    · rw [if_pos c2]; exact g
    · rw [if_neg c2]
      by_cases c3 : (setAt x (t.toNat - 1) (rowAt h (c.toNat - 1))).sum < nth h.needs (c.toNat - 1)
      · rw [if_pos c3]; exact g
      · rw [if_neg c3]
        refine HGood.of g.b8 g.good.b0 (by show _ = (List.set _ _ _).length; rw [List.length_set]; exact g.same) g.n8 (fun y hy => ?_) (fun z => by rw [show h.begun = false from z] at hb; cases hb) g.pas
        have hy : y ∈ zl h.needs (h.rooms.set (c.toNat - 1) (setAt x (t.toNat - 1) (rowAt h (c.toNat - 1)))) := hy
        have s := g.same
        rw [zl_room _ _ _ _ (by omega) (by omega)] at hy
        rcases mem_mapAt _ _ _ _ hy with z | ⟨u, h1, rfl⟩
        · exact g.good.ld y z
        · obtain ⟨a1, a2, a3, a4⟩ := g.good.ld u (List.mem_of_getElem? h1)
          have e := zl_at _ _ _ _ h1
          have e2 : rowAt h (c.toNat - 1) = u.rooms := e.2
          refine ⟨by show (setAt _ _ _).length = _; rw [len_set, e2]; exact a1, fun v hv => ?_, by show 0 ≤ nth h.needs _ ∧ nth h.needs _ ≤ _; rw [e.1]; exact a3, by show nth h.needs (c.toNat - 1) ≤ (setAt x (t.toNat - 1) (rowAt h (c.toNat - 1))).sum; omega⟩
          rcases mem_setAt _ _ _ _ hv with z | z
          · rw [z]; exact hx
          · rw [e2] at z; exact a2 v z
theorem good_base {h : HS} (g : HGood h) {t x : Int} (hx : 0 ≤ x ∧ x ≤ 1000000000) : HGood (mBase h t x).1 := by
  unfold mBase
  by_cases c1 : (h.bases.length : Int) < t
  · rw [if_pos c1]; exact g
  · rw [if_neg c1]
    refine HGood.of (by show (setAt _ _ _).length ≤ _; rw [len_set]; exact g.b8) (fun v hv => ?_) g.same g.n8 (fun y hy => by show LdOk (setAt _ _ _).length _; rw [len_set]; exact g.good.ld y hy) g.new g.pas
    rcases mem_setAt _ _ _ _ hv with z | z
    · rw [z]; exact hx
    · exact g.good.b0 v z
theorem good_add {h : HS} (g : HGood h) : HGood (mAdd h).1 := by
  unfold mAdd
  by_cases c1 : h.bases.length = 8
  · rw [if_pos c1]; exact g
  · rw [if_neg c1]
    have := g.b8
    refine HGood.of (by simp; omega) (fun v hv => ?_) (by simp [g.same]) g.n8 (fun y hy => ?_) g.new g.pas
    · rcases List.mem_append.mp hv with z | z
      · exact g.good.b0 v z
      · rw [List.mem_singleton] at z
        subst z; decide
    · have hy : y ∈ zl h.needs (h.rooms.map fun r => r ++ [0]) := hy
      rw [zl_rooms] at hy
      obtain ⟨u, hu, rfl⟩ := List.mem_map.mp hy
      obtain ⟨a1, a2, a3, a4⟩ := g.good.ld u hu
      refine ⟨by show (u.rooms ++ [0]).length = (h.bases ++ [0]).length; simp [a1], fun v hv => ?_, a3, by show u.need ≤ (u.rooms ++ [0]).sum; rw [List.sum_append]; simp; exact a4⟩
      rcases List.mem_append.mp hv with z | z
      · exact a2 v z
      · rw [List.mem_singleton] at z
        subst z; decide
theorem canGet_ok {h : HS} {gs : List Int} (c : canGet h gs = true) : gs.length = h.needs.length ∧ ∀ y ∈ gs.zip (loadsOf h), y.1 ≤ nth y.2.rooms 0 ∧ y.1 ≤ y.2.need ∧ y.2.need - y.1 ≤ (y.2.rooms.drop 1).sum := by
  unfold canGet at c
  rw [Bool.and_eq_true, decide_eq_true_eq, List.all_eq_true] at c
  refine ⟨c.1, fun y hy => ?_⟩
  have := c.2 y hy
  unfold getOk at this
  simp only [Bool.and_eq_true, decide_eq_true_eq] at this
  exact ⟨this.1.1, this.1.2, this.2⟩
theorem good_pass {h : HS} (g : HGood h) {gs : List Int} (hg : ∀ v ∈ gs, 0 ≤ v ∧ v ≤ 1000000000) : HGood (mPass h gs).1 := by
  unfold mPass
  by_cases c1 : h.bases.length = 0
  · rw [if_pos c1]; exact g
  · rw [if_neg c1]
    by_cases c2 : canGet h gs = false
    · rw [if_pos c2]; exact g
    · rw [if_neg c2]
      obtain ⟨hl, ha⟩ := canGet_ok (by simpa using c2)
      have p := g.pas
      have b8 := g.b8
      have n8 := g.n8
      refine HGood.of (by show (h.bases.drop 1).length ≤ 8; rw [List.length_drop]; omega) (fun v hv => g.good.b0 v (List.mem_of_mem_drop hv)) (by simp [hl, g.same]) (by simp; omega) (fun y hy => ?_) (fun z => ?_) (by show 0 ≤ h.passed + 1; omega)
      · have hy : y ∈ zl ((h.needs.zip gs).map fun z => z.1 - z.2) (h.rooms.map fun r => r.drop 1) := hy
        rw [zl_pass _ _ _ hl g.same] at hy
        obtain ⟨u, hu, rfl⟩ := List.mem_map.mp hy
        obtain ⟨b1, b2, b3⟩ := ha u hu
        obtain ⟨m1, m2⟩ := List.of_mem_zip (show (u.1, u.2) ∈ gs.zip (loadsOf h) from hu)
        obtain ⟨a1, a2, a3, a4⟩ := g.good.ld u.2 m2
        have := hg u.1 m1
        refine ⟨by show (u.2.rooms.drop 1).length = (h.bases.drop 1).length; rw [List.length_drop, List.length_drop, a1], fun v hv => a2 v (List.mem_of_mem_drop hv), ⟨by show 0 ≤ u.2.need - u.1; omega, by show u.2.need - u.1 ≤ _; omega⟩, b3⟩
      · have e := g.new z
        show (h.needs.zip gs).map _ = []
        rw [e]; rfl
theorem good_answer (h : HS) (q : Nat) (nums row : List Int) (g : HGood h) (hq : q < 21) (hl : nums.length = ((ranges[q]?).getD []).length) : HGood (mAnswer h q nums row).1 := by
  unfold mAnswer
  by_cases c1 : callIn q nums row = false
  · rw [if_pos c1]; exact g
  · rw [if_neg c1]
    have I : InR q nums row := ⟨by simpa using c1, hl⟩
    by_cases c2 : q ≠ 0 ∧ h.begun = false
    · rw [if_pos c2]; exact g
    · rw [if_neg c2]
      by_cases c3 : q ≤ 6
      · rw [if_pos c3]
        have hb : q ≠ 0 → h.begun = true := fun z => by
          cases e : h.begun with
          | true => rfl
          | false => exact absurd ⟨z, e⟩ c2
        match q, c3, I, hb with
        | 0, _, I, _ => exact good_begin g (I.num 0 (1, 8) rfl).2.2
        | 1, _, I, hb => exact good_load g (hb (by decide)) (I.num 0 (0, 1000000000) rfl).2 (I.row (z := (8, 0, 1000000000)) rfl).2
        | 2, _, I, hb => exact good_need g (hb (by decide)) (I.num 1 (0, 1000000000) rfl).2
        | 3, _, I, hb => exact good_room g (hb (by decide)) (I.num 0 (1, 8) rfl).2.1 (I.num 2 (0, 1000000000) rfl).2
        | 4, _, I, _ => exact good_base g (I.num 1 (0, 1000000000) rfl).2
        | 5, _, I, _ => exact good_add g
        | 6, _, I, _ => exact good_pass g (I.row (z := (8, 0, 1000000000)) rfl).2
      · rw [if_neg c3]
        by_cases c4 : q ≤ 10
        · rw [if_pos c4]; exact g
        · rw [if_neg c4]; exact g
theorem rowAt_len {h : HS} (g : HGood h) (c : Nat) : (rowAt h c).length ≤ 8 := by
  unfold rowAt
  cases e : h.rooms[c]? with
  | none => exact Nat.zero_le _
  | some r => show r.length ≤ 8; rw [g.row e]; exact g.b8
theorem len_one {a : Prop} [Decidable a] {h k : HS} {x y : List Int} (hx : x.length ≤ 100) (hy : y.length ≤ 100) : (if a then (h, x) else (k, y)).2.length ≤ 100 := by
  by_cases c : a
  · rw [if_pos c]; exact hx
  · rw [if_neg c]; exact hy
theorem len_if {a : Prop} [Decidable a] {x y : List Int} (hx : x.length ≤ 100) (hy : y.length ≤ 100) : (if a then x else y).length ≤ 100 := by
  by_cases c : a
  · rw [if_pos c]; exact hx
  · rw [if_neg c]; exact hy
theorem len_if2 {a : Prop} [Decidable a] {x y : HS × List Int} (hx : x.2.length ≤ 100) (hy : y.2.length ≤ 100) : (if a then x else y).2.length ≤ 100 := by
  by_cases c : a
  · rw [if_pos c]; exact hx
  · rw [if_neg c]; exact hy
theorem len_answer (h : HS) (q : Nat) (nums row : List Int) (g : HGood h) : (mAnswer h q nums row).2.length ≤ 100 := by
  have b8 := g.b8
  have d1 : ∀ z : Int, ([z] : List Int).length ≤ 100 := fun _ => by simp
  have d2 : ∀ z y : Int, ([z, y] : List Int).length ≤ 100 := fun _ _ => by simp
  unfold mAnswer
  refine len_if2 (d1 _) (len_if2 (d1 _) (len_if2 ?_ (len_if2 ?_ ?_)))
  · unfold mChange mBegin mLoad mNeed mRoom mBase mAdd mPass
    repeat' first | refine len_if2 ?_ ?_ | exact d1 _ | exact d2 _ _
  · show (gShow h q).length ≤ 100
    unfold gShow
    refine len_if ?_ (len_if ?_ (len_if ?_ (d2 _ _)))
    · rw [List.length_append, g.tot_len]; simp; omega
    · rw [List.length_append, g.am_len]; simp; omega
    · rw [List.length_append]
      have := g.sh_len
      simp; omega
  · show (gAsk h q nums row).length ≤ 100
    unfold gAsk gTop gSquare gMean gBecause gCheck gSlack gFits gCould gInfo gState
    refine len_if (d2 _ _) (len_if (d2 _ _) (len_if (len_if (by simp) (d1 _)) (len_if ?_ (len_if ?_ (len_if (len_if (d1 _) (len_if (d1 _) (d2 _ _))) (len_if (d2 _ _) (len_if (len_if (d1 _) (d2 _ _)) (len_if (len_if (d1 _) ?_) ?_))))))))
    · cases (List.range (2 ^ h.bases.length - 1)).find? (fun i => isPeak h (1 + i)) with
      | none => exact d1 _
      | some i =>
        show ([0] ++ ((List.range h.bases.length).filter fun t => (1 + i).testBit t).map fun t : Nat => (t : Int) + 1).length ≤ 100
        have := List.length_filter_le (fun t => (1 + i).testBit t) (List.range h.bases.length)
        rw [List.length_range] at this
        rw [List.length_append, List.length_map]
        simp
        omega
    · exact len_if (len_if (by simp) (d2 _ _)) (d2 _ _)
    · have := rowAt_len g ((nth nums 0).toNat - 1)
      rw [List.length_append]
      simp; omega
    · rw [List.length_append]; simp; omega
end Hs
end
section
set_option Elab.async false
set_option linter.all false
set_option maxRecDepth 100000
set_option maxHeartbeats 4000000
namespace Hs
open Vbemat (nth setAt mapAt Load)
def toS (h : HS) : Vbemat.State := { opened := h.begun, periods := h.bases.length, base := h.bases, loads := loadsOf h, passed := h.passed.toNat }
def outc (s : Vbemat.State) (c : Vbemat.Call) : Vbemat.State × List Int := match Vbemat.does s c with
  | .error e => (s, [e])
  | .ok (t, l) => (t, 0 :: l)
def lift (r : HS × List Int) : Vbemat.State × List Int := (toS r.1, r.2)
theorem outc_er {s : Vbemat.State} {c : Vbemat.Call} {z : Int} (e : Vbemat.does s c = .error z) : outc s c = (s, [z]) := by unfold outc; rw [e]
theorem outc_ok {s t : Vbemat.State} {c : Vbemat.Call} {l : List Int} (e : Vbemat.does s c = .ok (t, l)) : outc s c = (t, 0 :: l) := by unfold outc; rw [e]
def inner (h : HS) (q : Nat) (nums row : List Int) : HS × List Int := if q ≤ 6 then mChange h q nums row else if q ≤ 10 then (h, gShow h q) else (h, gAsk h q nums row)
theorem step_of {h : HS} {q : Nat} {nums row : List Int} {c : List (List Int)} {C : Vbemat.Call} (hd : Vbemat.decode c = Vbemat.guard (callIn q nums row) C) (ho : Vbemat.isOpens C = decide (q = 0))
    (hm : callIn q nums row = true → (q ≠ 0 → h.begun = true) → outc (toS h) C = lift (inner h q nums row)) : Vbemat.stepNumbers (toS h) c = lift (mAnswer h q nums row) := by
  unfold Vbemat.stepNumbers mAnswer
  rw [hd]
  cases e : callIn q nums row with
  | false => rfl
  | true =>
    rw [if_neg (by simp)]
    show Vbemat.step (toS h) C = _
    unfold Vbemat.step
    by_cases c1 : q ≠ 0 ∧ h.begun = false
    · rw [if_pos c1, if_pos ⟨c1.2, by rw [ho]; simpa using c1.1⟩]; rfl
    · rw [if_neg c1, if_neg (fun z => c1 ⟨by have := z.2; rw [ho] at this; simpa using this, z.1⟩)]
      exact hm e fun z => by
        cases b : h.begun with
        | true => rfl
        | false => exact absurd ⟨z, b⟩ c1
theorem loadOf_eq {h : HS} (g : HGood h) {c : Nat} (h1 : 1 ≤ c) (h2 : c ≤ h.needs.length) : Vbemat.loadOf (toS h) c = ⟨nth h.needs (c - 1), rowAt h (c - 1)⟩ ∧ (loadsOf h)[c - 1]? = some ⟨nth h.needs (c - 1), rowAt h (c - 1)⟩ := by
  have hl : c - 1 < (loadsOf h).length := by rw [g.len]; omega
  have e := zl_at _ _ _ _ (List.getElem?_eq_getElem (l := loadsOf h) hl)
  have e1 : nth h.needs (c - 1) = (loadsOf h)[c - 1].need := e.1
  have e2 : rowAt h (c - 1) = (loadsOf h)[c - 1].rooms := e.2
  rw [e1, e2]
  unfold Vbemat.loadOf
  show ((loadsOf h)[c - 1]?).getD _ = _ ∧ _
  rw [List.getElem?_eq_getElem hl]
  exact ⟨rfl, rfl⟩
theorem noLoad_eq {h : HS} (g : HGood h) {c : Int} (h1 : 1 ≤ c) : Vbemat.noLoad (toS h) c.toNat = decide ((h.needs.length : Int) < c) := by
  unfold Vbemat.noLoad
  show (decide (c.toNat = 0) || decide ((loadsOf h).length < c.toNat)) = _
  rw [g.len, decide_eq_false (by omega : ¬ c.toNat = 0), Bool.false_or]
  exact decide_eq_decide.mpr (by omega)
theorem noPeriod_eq {h : HS} {t : Int} (h1 : 1 ≤ t) : Vbemat.noPeriod (toS h) t.toNat = decide ((h.bases.length : Int) < t) := by
  unfold Vbemat.noPeriod
  show (decide (t.toNat = 0) || decide (h.bases.length < t.toNat)) = _
  rw [decide_eq_false (by omega : ¬ t.toNat = 0), Bool.false_or]
  exact decide_eq_decide.mpr (by omega)
theorem sim0 (h : HS) (n : Int) : outc (toS h) (.opens n.toNat) = lift (mBegin h n) := by
  unfold mBegin
  by_cases c : h.begun = true
  · rw [if_pos c]
    exact outc_er (by show (if h.begun = true then _ else _) = _; rw [if_pos c])
  · rw [if_neg c, outc_ok (l := []) (by show (if h.begun = true then _ else _) = _; rw [if_neg c])]
    unfold lift toS loadsOf
    simp
theorem sim1 {h : HS} (g : HGood h) (need : Int) (row : List Int) : outc (toS h) (.load need row) = lift (mLoad h need row) := by
  unfold mLoad
  by_cases c : row.length ≠ h.bases.length ∨ row.sum < need
  · rw [if_pos c]
    exact outc_er (by show (if row.length ≠ h.bases.length ∨ row.sum < need then _ else _) = _; rw [if_pos c])
  · rw [if_neg c]
    have hl := g.len
    have n8 := g.n8
    by_cases c2 : h.needs.length = 8
    · rw [if_pos c2]
      exact outc_er (by show (if row.length ≠ h.bases.length ∨ row.sum < need then _ else if 8 ≤ (loadsOf h).length then _ else _) = _; rw [if_neg c, if_pos (by omega)])
    · rw [if_neg c2, outc_ok (by show (if row.length ≠ h.bases.length ∨ row.sum < need then _ else if 8 ≤ (loadsOf h).length then _ else _) = _; rw [if_neg c, if_neg (by omega)])]
      show (_, [0, Vbemat.nat ((loadsOf h).length + 1)]) = _
      rw [hl]
      unfold lift
      refine Prod.ext ?_ rfl
      show Vbemat.State.mk _ _ _ (loadsOf h ++ [⟨need, row⟩]) _ = Vbemat.State.mk _ _ _ (zl (h.needs ++ [need]) (h.rooms ++ [row])) _
      rw [zl_snoc g.same]
      rfl
theorem sim2 {h : HS} (g : HGood h) {c : Int} (hc : 1 ≤ c) (x : Int) : outc (toS h) (.need c.toNat x) = lift (mNeed h c x) := by
  unfold mNeed
  have e := noLoad_eq g hc
  by_cases c1 : (h.needs.length : Int) < c
  · rw [if_pos c1]
    exact outc_er (by show (if Vbemat.noLoad (toS h) c.toNat = true then _ else _) = _; rw [if_pos (by rw [e]; simpa using c1)])
  · rw [if_neg c1]
    have el := (loadOf_eq g (c := c.toNat) (by omega) (by omega)).1
    have n1 : ¬ Vbemat.noLoad (toS h) c.toNat = true := by rw [e]; simpa using c1
    by_cases c2 : (rowAt h (c.toNat - 1)).sum < x
    · rw [if_pos c2]
      exact outc_er (by show (if Vbemat.noLoad (toS h) c.toNat = true then _ else if (Vbemat.loadOf (toS h) c.toNat).rooms.sum < x then _ else _) = _; rw [if_neg n1, el, if_pos c2])
    · rw [if_neg c2, outc_ok (by show (if Vbemat.noLoad (toS h) c.toNat = true then _ else if (Vbemat.loadOf (toS h) c.toNat).rooms.sum < x then _ else _) = _; rw [if_neg n1, el, if_neg c2])]
      refine Prod.ext ?_ rfl
      show Vbemat.State.mk _ _ _ (mapAt _ (c.toNat - 1) (zl h.needs h.rooms)) _ = Vbemat.State.mk _ _ _ (zl (setAt x (c.toNat - 1) h.needs) h.rooms) _
      rw [zl_need]
      rfl
theorem sim3 {h : HS} (g : HGood h) {c t : Int} (hc : 1 ≤ c) (ht : 1 ≤ t) (x : Int) : outc (toS h) (.room c.toNat t.toNat x) = lift (mRoom h c t x) := by
  unfold mRoom
  have e := noLoad_eq g hc
  have e2 := noPeriod_eq (h := h) ht
  by_cases c1 : (h.needs.length : Int) < c
  · rw [if_pos c1]
    exact outc_er (by show (if Vbemat.noLoad (toS h) c.toNat = true then _ else _) = _; rw [if_pos (by rw [e]; simpa using c1)])
  · rw [if_neg c1]
    have el := (loadOf_eq g (c := c.toNat) (by omega) (by omega)).1
    have n1 : ¬ Vbemat.noLoad (toS h) c.toNat = true := by rw [e]; simpa using c1
    by_cases c2 : (h.bases.length : Int) < t
    · rw [if_pos c2]
      exact outc_er (by show (if Vbemat.noLoad (toS h) c.toNat = true then _ else if Vbemat.noPeriod (toS h) t.toNat = true then _ else _) = _; rw [if_neg n1, if_pos (by rw [e2]; simpa using c2)])
    · rw [if_neg c2]
      have n2 : ¬ Vbemat.noPeriod (toS h) t.toNat = true := by rw [e2]; simpa using c2
      have ed : Vbemat.does (toS h) (.room c.toNat t.toNat x) = if Vbemat.possible ⟨nth h.needs (c.toNat - 1), setAt x (t.toNat - 1) (rowAt h (c.toNat - 1))⟩ = false then .error (-7) else .ok (Vbemat.withLoad (toS h) c.toNat fun _ => ⟨nth h.needs (c.toNat - 1), setAt x (t.toNat - 1) (rowAt h (c.toNat - 1))⟩, []) := by
        show (if Vbemat.noLoad (toS h) c.toNat = true then _ else if Vbemat.noPeriod (toS h) t.toNat = true then _ else _) = _
        rw [if_neg n1, if_neg n2, el]
      by_cases c3 : (setAt x (t.toNat - 1) (rowAt h (c.toNat - 1))).sum < nth h.needs (c.toNat - 1)
      · rw [if_pos c3]
        exact outc_er (by rw [ed, if_pos (by unfold Vbemat.possible; rw [decide_eq_false_iff_not]; show ¬ nth h.needs (c.toNat - 1) ≤ (setAt x (t.toNat - 1) (rowAt h (c.toNat - 1))).sum; omega)])
      · rw [if_neg c3, outc_ok (by rw [ed, if_neg (by unfold Vbemat.possible; rw [decide_eq_false_iff_not]; show ¬ ¬ nth h.needs (c.toNat - 1) ≤ (setAt x (t.toNat - 1) (rowAt h (c.toNat - 1))).sum; omega)])]
        refine Prod.ext ?_ rfl
        have s := g.same
        show Vbemat.State.mk _ _ _ (mapAt _ (c.toNat - 1) (zl h.needs h.rooms)) _ = Vbemat.State.mk _ _ _ (zl h.needs (h.rooms.set (c.toNat - 1) (setAt x (t.toNat - 1) (rowAt h (c.toNat - 1))))) _
        rw [zl_room _ _ _ _ (by omega) (by omega)]
        rfl
theorem sim4 {h : HS} {t : Int} (ht : 1 ≤ t) (x : Int) : outc (toS h) (.base t.toNat x) = lift (mBase h t x) := by
  unfold mBase
  have e2 := noPeriod_eq (h := h) ht
  by_cases c2 : (h.bases.length : Int) < t
  · rw [if_pos c2]
    exact outc_er (by show (if Vbemat.noPeriod (toS h) t.toNat = true then _ else _) = _; rw [if_pos (by rw [e2]; simpa using c2)])
  · rw [if_neg c2, outc_ok (by show (if Vbemat.noPeriod (toS h) t.toNat = true then _ else _) = _; rw [if_neg (by rw [e2]; simpa using c2)])]
    refine Prod.ext ?_ rfl
    show Vbemat.State.mk _ h.bases.length (setAt x (t.toNat - 1) h.bases) _ _ = Vbemat.State.mk _ (setAt x (t.toNat - 1) h.bases).length _ _ _
    rw [len_set]
    rfl
theorem sim5 {h : HS} (g : HGood h) : outc (toS h) .add = lift (mAdd h) := by
  unfold mAdd
  have b8 := g.b8
  by_cases c : h.bases.length = 8
  · rw [if_pos c]
    exact outc_er (by show (if 8 ≤ h.bases.length then _ else _) = _; rw [if_pos (by omega)])
  · rw [if_neg c, outc_ok (by show (if 8 ≤ h.bases.length then _ else _) = _; rw [if_neg (by omega)])]
    refine Prod.ext ?_ rfl
    show Vbemat.State.mk _ (h.bases.length + 1) (h.bases ++ [0]) ((loadsOf h).map _) _ = Vbemat.State.mk _ (h.bases ++ [0]).length _ (zl h.needs (h.rooms.map fun r => r ++ [0])) _
    rw [zl_rooms, List.length_append]
    rfl
theorem lets_eq {h : HS} (g : HGood h) {gs : List Int} (hg : ∀ v ∈ gs, 0 ≤ v) : Vbemat.letsNow (toS h) gs = canGet h gs := by
  unfold Vbemat.letsNow canGet
  show (decide (gs.length = (loadsOf h).length) && ((loadsOf h).zip gs).all _) = _
  rw [g.len]
  congr 1
  have : ∀ (l : List Load) (gs : List Int), (∀ v ∈ gs, 0 ≤ v) → ((l.zip gs).all fun y => decide (0 ≤ y.2) && (decide (y.2 ≤ nth y.1.rooms 0) && (decide (y.2 ≤ y.1.need) && decide (y.1.need - y.2 ≤ (y.1.rooms.drop 1).sum)))) = (gs.zip l).all fun y => getOk y.1 y.2.need y.2.rooms := by
    intro l
    induction l with
    | nil => intro gs _; cases gs <;> rfl
    | cons a l ih =>
      intro gs hg
      cases gs with
      | nil => rfl
      | cons b gs =>
        rw [List.zip_cons_cons, List.zip_cons_cons, List.all_cons, List.all_cons, ih gs fun v hv => hg v (List.mem_cons_of_mem _ hv)]
        congr 1
        unfold getOk
        rw [decide_eq_true (hg b List.mem_cons_self), Bool.true_and, Bool.and_assoc]
  exact this _ _ hg
theorem sim6 {h : HS} (g : HGood h) {gs : List Int} (hg : ∀ v ∈ gs, 0 ≤ v) : outc (toS h) (.pass gs) = lift (mPass h gs) := by
  unfold mPass
  have e := lets_eq g hg
  by_cases c1 : h.bases.length = 0
  · rw [if_pos c1]
    exact outc_er (by show (if h.bases.length = 0 then _ else _) = _; rw [if_pos c1])
  · rw [if_neg c1]
    by_cases c2 : canGet h gs = false
    · rw [if_pos c2]
      exact outc_er (by show (if h.bases.length = 0 then _ else if Vbemat.letsNow (toS h) gs = false then _ else _) = _; rw [if_neg c1, e, if_pos c2])
    · rw [if_neg c2, outc_ok (by show (if h.bases.length = 0 then _ else if Vbemat.letsNow (toS h) gs = false then _ else _) = _; rw [if_neg c1, e, if_neg c2])]
      obtain ⟨hl, ha⟩ := canGet_ok (by simpa using c2)
      refine Prod.ext ?_ rfl
      have p := g.pas
      show Vbemat.State.mk _ (h.bases.length - 1) (h.bases.drop 1) (((loadsOf h).zip gs).map fun y => ⟨y.1.need - y.2, y.1.rooms.drop 1⟩) (h.passed.toNat + 1) = Vbemat.State.mk _ (h.bases.drop 1).length _ (zl ((h.needs.zip gs).map fun z => z.1 - z.2) (h.rooms.map fun r => r.drop 1)) (h.passed + 1).toNat
      rw [zl_pass _ _ _ hl g.same, List.length_drop, zip_swap (fun (a : Load) (b : Int) => (⟨a.need - b, a.rooms.drop 1⟩ : Load)), show (h.passed + 1).toNat = h.passed.toNat + 1 by omega]
      rfl
theorem planned_eq {h : HS} (g : HGood h) : Vbemat.planned (toS h) = gTotals h := (Lev.totalsOf_eq g.good).symm
theorem amounts_eq {h : HS} (g : HGood h) : Vbemat.amounts (toS h) = gAmounts h := (Lev.amountsOf_eq g.good).symm
theorem sim7 {h : HS} (g : HGood h) : outc (toS h) .totals = (toS h, [0] ++ gTotals h) := by
  rw [outc_ok (l := Vbemat.planned (toS h)) rfl, planned_eq g]; rfl
theorem sim8 {h : HS} (g : HGood h) : outc (toS h) .amounts = (toS h, [0] ++ gAmounts h) := by
  rw [outc_ok (l := Vbemat.amounts (toS h)) rfl, amounts_eq g]; rfl
theorem sim9 {h : HS} (g : HGood h) : outc (toS h) .shares = (toS h, [0] ++ gShares h) := by
  rw [outc_ok (l := Vbemat.shares h.bases.length (loadsOf h) (Vbemat.level h.bases.length h.bases (loadsOf h))) rfl, ← Lev.sharesOf_eq g.good]; rfl
theorem sim10 {h : HS} (g : HGood h) : outc (toS h) .peak = (toS h, [0, gPeak h]) := by
  rw [outc_ok (l := [Vbemat.greatest (Vbemat.planned (toS h))]) rfl, planned_eq g]
theorem sim11 {h : HS} (g : HGood h) (k : Int) : outc (toS h) (.top k.toNat) = (toS h, gTop h k) := by
  rw [outc_ok (l := [Vbemat.top k.toNat (Vbemat.planned (toS h))]) rfl, planned_eq g]
theorem sim12 {h : HS} (g : HGood h) : outc (toS h) .squares = (toS h, gSquare h) := by
  rw [outc_ok (l := [Vbemat.squares (Vbemat.planned (toS h))]) rfl, planned_eq g]
theorem sim17 {h : HS} (g : HGood h) (l : Int) : outc (toS h) (.fits l) = (toS h, gFits h l) := by
  rw [outc_ok (l := [Vbemat.flag (decide (Vbemat.greatest (Vbemat.planned (toS h)) ≤ l))]) rfl, planned_eq g]
  unfold Vbemat.flag gFits
  by_cases c : gPeak h ≤ l
  · rw [if_pos c, if_pos (by simpa using c)]
  · rw [if_neg c, if_neg (by simpa using c)]
theorem sim19 {h : HS} (g : HGood h) {c : Int} (hc : 1 ≤ c) : outc (toS h) (.info c.toNat) = (toS h, gInfo h c) := by
  have e := noLoad_eq g hc
  unfold gInfo
  by_cases c1 : (h.needs.length : Int) < c
  · rw [if_pos c1]
    exact outc_er (by show (if Vbemat.noLoad (toS h) c.toNat = true then _ else _) = _; rw [if_pos (by rw [e]; simpa using c1)])
  · have el := (loadOf_eq g (c := c.toNat) (by omega) (by omega)).1
    rw [if_neg c1, outc_ok (by show (if Vbemat.noLoad (toS h) c.toNat = true then _ else _) = _; rw [if_neg (by rw [e]; simpa using c1)]), el]
    rfl
theorem sim20 {h : HS} (g : HGood h) : outc (toS h) .state = (toS h, gState h) := by
  rw [outc_ok (l := [Vbemat.nat h.bases.length, Vbemat.nat (loadsOf h).length, Vbemat.nat h.passed.toNat] ++ h.bases) rfl, g.len]
  have p := g.pas
  have e : Vbemat.nat h.passed.toNat = h.passed := by unfold Vbemat.nat; omega
  rw [e]
  rfl
end Hs
end
section
set_option Elab.async false
set_option linter.all false
set_option maxRecDepth 100000
set_option maxHeartbeats 4000000
namespace Hs
open Vbemat (nth setAt mapAt Load)
theorem count_card (p : Nat) : ∀ n : Nat, ((Vbemat.count p n : Nat) : Int) = Lev.card p n
  | 0 => rfl
  | n + 1 => by
    have ih := count_card p n
    unfold Vbemat.count at ih ⊢
    rw [List.range_succ, List.filter_append, List.length_append]
    show _ = Lev.S (fun _ => 1) p (n + 1)
    rw [Lev.S]
    have ih : (((List.range n).filter fun t => Vbemat.has p t).length : Int) = Lev.S (fun _ => 1) p n := ih
    rw [Int.natCast_add, ih]
    congr 1
    cases e : p.testBit n with
    | true => rw [List.filter_cons_of_pos (by rw [Lev.has_eq, e])]; rfl
    | false => rw [List.filter_cons_of_neg (by rw [Lev.has_eq, e]; simp)]; rfl
theorem up_eq (a : Int) {b : Int} (hb : 0 < b) : Vbemat.up a b = Lev.roundedUp a b := by
  obtain ⟨h1, h2⟩ := Lev.up_bounds a hb
  generalize Lev.roundedUp a b = r at h1 h2
  unfold Vbemat.up
  have h3 : -r * b ≤ -a := by rw [Int.neg_mul]; omega
  have h4 : -a < (-r + 1) * b := by
    have : (-r + 1) * b = -((r - 1) * b) := by rw [← Int.neg_mul]; congr 1; omega
    rw [this]; omega
  have l1 : -r ≤ (-a) / b := (Int.le_ediv_iff_mul_le hb).mpr h3
  have l2 : (-a) / b < -r + 1 := (Int.ediv_lt_iff_lt_mul hb).mpr h4
  omega
theorem mean_eq {h : HS} (g : HGood h) {p : Nat} (h1 : 0 < p) (h2 : p < 2 ^ h.bases.length) : Vbemat.mean h.bases.length h.bases (loadsOf h) p = Lev.roundedUp (nth (gLeast h) p) (Lev.card p h.bases.length) := by
  unfold Vbemat.mean
  rw [count_card, up_eq _ (card_pos h1 h2), g.least_tells.2 p h2, Lev.over_eq]
  rfl
theorem find_congr {α : Type} {p q : α → Bool} : ∀ (l : List α), (∀ x ∈ l, p x = q x) → l.find? p = l.find? q
  | [], _ => rfl
  | a :: l, h => by
    rw [List.find?_cons, List.find?_cons, h a List.mem_cons_self, find_congr l fun x hx => h x (List.mem_cons_of_mem _ hx)]
theorem range_drop (m : Nat) : (List.range m).drop 1 = (List.range (m - 1)).map (1 + ·) := by
  apply List.ext_getElem
  · simp
  · intro i h1 h2
    simp
theorem sim14 {h : HS} (g : HGood h) : outc (toS h) .because = (toS h, gBecause h) := by
  have e : (((Vbemat.sets h.bases.length).drop 1).find? fun p => Vbemat.mean h.bases.length h.bases (loadsOf h) p == Vbemat.greatest (Vbemat.planned (toS h))) = ((List.range (2 ^ h.bases.length - 1)).find? fun i => isPeak h (1 + i)).map (1 + ·) := by
    unfold Vbemat.sets
    rw [range_drop, List.find?_map]
    congr 1
    apply find_congr
    intro i hi
    have hi : i < 2 ^ h.bases.length - 1 := List.mem_range.mp hi
    show (Vbemat.mean h.bases.length h.bases (loadsOf h) (1 + i) == Vbemat.greatest (Vbemat.planned (toS h))) = _
    rw [mean_eq g (by omega) (by omega), planned_eq g]
    unfold isPeak
    rw [(Lev.sizes_tells h.bases.length).2 (1 + i) (by omega)]
    rfl
  rw [outc_ok (l := match ((Vbemat.sets h.bases.length).drop 1).find? fun p => Vbemat.mean h.bases.length h.bases (loadsOf h) p == Vbemat.greatest (Vbemat.planned (toS h)) with | none => [] | some p => Vbemat.periodsOf h.bases.length p) rfl, e]
  unfold gBecause
  cases (List.range (2 ^ h.bases.length - 1)).find? fun i => isPeak h (1 + i) with
  | none => rfl
  | some i =>
    show (toS h, 0 :: Vbemat.periodsOf h.bases.length (1 + i)) = _
    unfold Vbemat.periodsOf
    rw [show Vbemat.has (1 + i) = fun t => (1 + i).testBit t from funext fun t => Lev.has_eq _ _]
    rfl
theorem grow_split {n : Int} {a : Int} (ha : 0 ≤ a) (r : List Int) : grow n a r = true ↔ (∀ b ∈ r, a < b) ∧ grow n 0 r = true := by
  cases r with
  | nil => simp [grow]
  | cons b s =>
    constructor
    · intro k
      refine ⟨fun x hx => (grow_mem k x hx).1, ?_⟩
      rw [grow_cons] at k ⊢
      by_cases c : b ≤ a ∨ n < b
      · rw [if_pos c] at k; cases k
      · rw [if_neg c] at k
        rw [if_neg (by omega)]; exact k
    · intro ⟨k1, k2⟩
      have := k1 b List.mem_cons_self
      rw [grow_cons] at k2 ⊢
      by_cases c : b ≤ 0 ∨ n < b
      · rw [if_pos c] at k2; cases k2
      · rw [if_neg c] at k2
        rw [if_neg (by omega)]; exact k2
theorem partOf_cons (a : Int) (r : List Int) : partOf (a :: r) = 2 ^ (a.toNat - 1) + partOf r := by
  unfold partOf
  rw [List.map_cons, List.sum_cons]
theorem setOf_grow (n : Nat) : ∀ l : List Int, Vbemat.setOf n l = if grow n 0 l = true then some (partOf l) else none
  | [] => rfl
  | a :: r => by
    have ih := setOf_grow n r
    unfold Vbemat.setOf
    rw [ih]
    by_cases c : grow n 0 r = true
    · rw [if_pos c]
      show (if 1 ≤ a ∧ a ≤ Vbemat.nat n ∧ (r.all fun b => decide (a < b)) = true then some (partOf r + 2 ^ (a.toNat - 1)) else none) = _
      rw [grow_cons]
      by_cases k : a ≤ 0 ∨ (n : Int) < a
      · rw [if_pos k, if_neg (by unfold Vbemat.nat; omega)]; rfl
      · rw [if_neg k]
        by_cases m : (r.all fun b => decide (a < b)) = true
        · rw [if_pos ⟨by omega, by unfold Vbemat.nat; omega, m⟩, if_pos ((grow_split (by omega) r).mpr ⟨by simpa using m, c⟩), partOf_cons, Nat.add_comm]
        · rw [if_neg (fun z => m z.2.2), if_neg (fun z => m (by simpa using ((grow_split (by omega) r).mp z).1))]
    · rw [if_neg c, if_neg]
      intro z
      rw [grow_cons] at z
      by_cases k : a ≤ 0 ∨ (n : Int) < a
      · rw [if_pos k] at z; cases z
      · rw [if_neg k] at z
        exact c ((grow_split (by omega) r).mp z).2
theorem partOf_pos {l : List Int} (h : l ≠ []) : 0 < partOf l := by
  cases l with
  | nil => exact absurd rfl h
  | cons a r =>
    rw [partOf_cons]
    have := Nat.two_pow_pos (a.toNat - 1)
    omega
theorem part_dvd {d : Nat} : ∀ {r : List Int}, (∀ b ∈ r, d ≤ b.toNat - 1) → 2 ^ d ∣ partOf r
  | [], _ => ⟨0, rfl⟩
  | a :: r, h => by
    rw [partOf_cons]
    exact Nat.dvd_add (Nat.pow_dvd_pow 2 (h a List.mem_cons_self)) (part_dvd fun b hb => h b (List.mem_cons_of_mem _ hb))
theorem card_pow {k n : Nat} (h : k < n) : Lev.card (2 ^ k) n = 1 := by
  have : ∀ m : Nat, Lev.card (2 ^ k) m = if k < m then 1 else 0 := by
    intro m
    induction m with
    | zero => rfl
    | succ m ih =>
      show Lev.S (fun _ => 1) (2 ^ k) (m + 1) = _
      rw [Lev.S]
      rw [show Lev.S (fun _ => 1) (2 ^ k) m = if k < m then 1 else 0 from ih, Nat.testBit_two_pow]
      simp only [decide_eq_true_eq]
      split <;> split <;> split <;> omega
  rw [this, if_pos h]
theorem card_add {k m n : Nat} (h : k < n) (hd : 2 ^ (k + 1) ∣ m) : Lev.card (2 ^ k + m) n = 1 + Lev.card m n := by
  obtain ⟨c, rfl⟩ := hd
  have e : 2 ^ k + 2 ^ (k + 1) * c = 2 ^ k ||| 2 ^ (k + 1) * c := by
    have := Nat.shiftLeft_add_eq_or_of_lt (i := k + 1) (b := 2 ^ k) (Nat.pow_lt_pow_right (by decide) (by omega)) c
    rw [Nat.shiftLeft_eq, Nat.mul_comm c] at this
    rw [Nat.add_comm, this, Nat.or_comm]
  have z : 2 ^ k &&& 2 ^ (k + 1) * c = 0 := by
    apply Nat.eq_of_testBit_eq
    intro t
    rw [Nat.testBit_and, Nat.testBit_two_pow, Nat.zero_testBit]
    by_cases e : k = t
    · subst e
      rw [Nat.testBit_two_pow_mul, decide_eq_false (by omega : ¬ k ≥ k + 1)]
      simp
    · simp [e]
  have u := Lev.card_union_inter (2 ^ k) (2 ^ (k + 1) * c) n
  rw [z, ← e, card_pow h] at u
  have : Lev.card 0 n = 0 := Lev.S_zero_set _ n
  omega
theorem part_card {n : Nat} : ∀ {l : List Int} {before : Int}, 0 ≤ before → grow n before l = true → Lev.card (partOf l) n = (l.length : Int)
  | [], _, _, _ => Lev.S_zero_set _ n
  | a :: r, before, h0, h => by
    have m := grow_mem h a List.mem_cons_self
    rw [grow_cons, if_neg (by omega)] at h
    have ih := part_card (by omega) h
    rw [partOf_cons, card_add (by omega) (part_dvd fun b hb => by have := (grow_mem h b hb).1; omega), ih, List.length_cons]
    omega
theorem sim13 {h : HS} (g : HGood h) (l : List Int) : outc (toS h) (.forced l) = (toS h, gMean h l) := by
  have e := setOf_grow h.bases.length l
  unfold gMean areGrowing
  by_cases c : grow h.bases.length 0 l = true
  · rw [if_pos c] at e
    by_cases k : l = []
    · subst k
      rw [if_neg (by simp)]
      exact outc_er rfl
    · have hp := partOf_pos k
      have hb := grow_part (before := 0) (Nat.zero_le _) c
      have hb : partOf l < 2 ^ h.bases.length := by simp at hb; omega
      rw [if_pos (by rw [c]; simpa using List.length_pos_iff.mpr k), outc_ok (l := [Vbemat.forced (loadsOf h) (partOf l), Vbemat.mean h.bases.length h.bases (loadsOf h) (partOf l)]) (by
        show (match Vbemat.setOf h.bases.length l with | none => _ | some p => _) = _
        rw [e]
        show (if partOf l = 0 then _ else _) = _
        rw [if_neg (by omega)]; rfl), mean_eq g hp hb, part_card (Int.le_refl 0) c, g.forced_tells.2 _ hb]
  · rw [if_neg c] at e
    rw [if_neg (by simp [c])]
    exact outc_er (by show (match Vbemat.setOf h.bases.length l with | none => _ | some p => _) = _; rw [e])
end Hs
end
section
set_option Elab.async false
set_option linter.all false
set_option maxRecDepth 100000
set_option maxHeartbeats 4000000
namespace Hs
open Vbemat (nth setAt mapAt Load)
theorem HGood.free_tells {h : HS} (g : HGood h) : Lev.Tells h.bases.length (gFree h) (fun p => Lev.S (nth (gAmounts h)) p h.bases.length - Vbemat.forced (loadsOf h) p) :=
  Lev.Tells.sub (Lev.setSums_tells g.am_len) g.forced_tells
theorem slack_eq {h : HS} (g : HGood h) {s t : Nat} (hs : s < h.bases.length) (hst : s ≠ t) : Vbemat.slack (Vbemat.table h.bases.length (loadsOf h)) (gAmounts h) s t = minOf (losing h s t) := by
  have T := Lev.table_tells h.bases.length (loadsOf h)
  have F := g.free_tells
  obtain ⟨p, hp, h1, h2, e⟩ := Lev.slack_at (t := t) T g.am_len hs hst
  refine minOf_eq ?_ fun y hy => ?_
  · rw [e]
    refine List.mem_map.mpr ⟨p, List.mem_filter.mpr ⟨List.mem_range.mpr (by rw [F.1]; exact hp), by rw [h1, h2]; rfl⟩, F.2 p hp⟩
  · obtain ⟨q, hq, rfl⟩ := List.mem_map.mp hy
    obtain ⟨hq1, hq2⟩ := List.mem_filter.mp hq
    have hq1 : q < 2 ^ h.bases.length := by have := List.mem_range.mp hq1; rw [F.1] at this; exact this
    rw [Bool.and_eq_true, Bool.not_eq_true'] at hq2
    rw [F.2 q hq1]
    exact Lev.slack_le T g.am_len hq1 hq2.1 hq2.2
theorem sim16 {h : HS} (g : HGood h) {s t : Int} (hs : 1 ≤ s) (ht : 1 ≤ t) : outc (toS h) (.slack s.toNat t.toNat) = (toS h, gSlack h s t) := by
  have e1 := noPeriod_eq (h := h) hs
  have e2 := noPeriod_eq (h := h) ht
  unfold gSlack
  by_cases c : (h.bases.length : Int) < max s t
  · rw [if_pos c]
    refine outc_er ?_
    show (if Vbemat.noPeriod (toS h) s.toNat = true ∨ Vbemat.noPeriod (toS h) t.toNat = true then _ else _) = _
    rw [if_pos (by rw [e1, e2, decide_eq_true_eq, decide_eq_true_eq]; omega)]
  · have n : ¬ (Vbemat.noPeriod (toS h) s.toNat = true ∨ Vbemat.noPeriod (toS h) t.toNat = true) := by
      rw [e1, e2, decide_eq_true_eq, decide_eq_true_eq]; omega
    rw [if_neg c]
    by_cases c2 : s = t
    · rw [if_pos c2]
      refine outc_er ?_
      show (if Vbemat.noPeriod (toS h) s.toNat = true ∨ Vbemat.noPeriod (toS h) t.toNat = true then _ else if s.toNat = t.toNat then _ else _) = _
      rw [if_neg n, if_pos (by rw [c2])]
    · rw [if_neg c2, outc_ok (l := [Vbemat.slack (Vbemat.table h.bases.length (loadsOf h)) (Vbemat.amounts (toS h)) (s.toNat - 1) (t.toNat - 1)]) (by
        show (if Vbemat.noPeriod (toS h) s.toNat = true ∨ Vbemat.noPeriod (toS h) t.toNat = true then _ else if s.toNat = t.toNat then _ else _) = _
        rw [if_neg n, if_neg (by omega)]; rfl), amounts_eq g, slack_eq g (by omega) (by omega)]
def wayAt (n : Nat) (l : List Int) (c : Nat) : List Int := (List.range n).map fun t => nth l (c * n + t)
theorem way_eq {n k : Nat} {l : List Int} (hl : l.length = k * n) {c : Nat} (hc : c < k) : (l.drop (c * n)).take n = wayAt n l c := by
  have hb : c * n + n ≤ k * n := by
    have : (c + 1) * n ≤ k * n := Nat.mul_le_mul_right n hc
    rw [Nat.add_mul, Nat.one_mul] at this
    exact this
  apply List.ext_getElem
  · unfold wayAt
    rw [List.length_take, List.length_drop, List.length_map, List.length_range]
    omega
  · intro i h1 h2
    unfold wayAt at h2 ⊢
    rw [List.length_map, List.length_range] at h2
    have : c * n + i < l.length := by omega
    rw [List.getElem_take, List.getElem_drop, List.getElem_map, List.getElem_range]
    unfold nth
    rw [List.getElem?_eq_getElem this]
    rfl
theorem ways_eq {h : HS} {l : List Int} (hl : l.length = h.needs.length * h.bases.length) : waysOf h l = (List.range h.needs.length).map (wayAt h.bases.length l) := by
  unfold waysOf
  apply List.map_congr_left
  intro c hc
  exact way_eq hl (List.mem_range.mp hc)
theorem len_way (n : Nat) (l : List Int) (c : Nat) : (wayAt n l c).length = n := by unfold wayAt; rw [List.length_map, List.length_range]
theorem nth_way {n : Nat} (l : List Int) (c : Nat) {t : Nat} (ht : t < n) : nth (wayAt n l c) t = nth l (c * n + t) := by
  unfold wayAt nth
  rw [List.getElem?_map, List.getElem?_range ht]
  rfl
theorem len_cols (n : Nat) (l : List Int) (k : Nat) : (Vbemat.columns n l k).length = n := by unfold Vbemat.columns; rw [List.length_map, List.length_range]
theorem nth_cols {n : Nat} (l : List Int) (k : Nat) {t : Nat} (ht : t < n) : nth (Vbemat.columns n l k) t = Vbemat.column n l k t := by
  unfold Vbemat.columns nth
  rw [List.getElem?_map, List.getElem?_range ht]
  rfl
theorem col_succ (n : Nat) (l : List Int) (k t : Nat) : Vbemat.column n l (k + 1) t = Vbemat.column n l k t + nth l (k * n + t) := by
  unfold Vbemat.column
  rw [List.range_succ, List.map_append, List.sum_append]
  simp
theorem ways_fold (b l : List Int) : ∀ k : Nat, ((List.range k).map (wayAt b.length l)).foldl Lev.addLists b = Vbemat.totals b (Vbemat.columns b.length l k)
  | 0 => by
    show b = _
    have hl : b.length = (Vbemat.columns b.length l 0).length := (len_cols _ _ _).symm
    apply Lev.ext_nth
    · rw [Lev.length_totals hl, len_cols]
    · intro t ht
      rw [Lev.nth_totals hl (by rw [len_cols]; exact ht)]
      unfold Lev.tot
      rw [nth_cols _ _ ht]
      show _ = nth b t + 0
      omega
  | k + 1 => by
    have hl : ∀ k, b.length = (Vbemat.columns b.length l k).length := fun k => (len_cols _ _ _).symm
    rw [List.range_succ, List.map_append, List.foldl_append, ways_fold b l k]
    show Lev.addLists (Vbemat.totals b (Vbemat.columns b.length l k)) (wayAt b.length l k) = _
    have e1 : (Vbemat.totals b (Vbemat.columns b.length l k)).length = b.length := by rw [Lev.length_totals (hl k), len_cols]
    have e0 : (Lev.addLists (Vbemat.totals b (Vbemat.columns b.length l k)) (wayAt b.length l k)).length = b.length := by
      rw [addLists_len, e1, len_way]; omega
    apply Lev.ext_nth
    · rw [Lev.length_totals (hl (k + 1)), len_cols, e0]
    · intro t ht
      rw [e0] at ht
      rw [Lev.nth_totals (hl (k + 1)) (by rw [len_cols]; exact ht)]
      unfold Lev.addLists
      rw [Lev.nth_zipWith (by rw [e1]; exact ht) (by rw [len_way]; exact ht), Lev.nth_totals (hl k) (by rw [len_cols]; exact ht)]
      unfold Lev.tot
      rw [nth_cols _ _ ht, nth_cols _ _ ht, col_succ]
      show nth b t + Vbemat.column b.length l k t + nth (wayAt b.length l k) t = _
      rw [nth_way _ _ ht]
      omega
theorem all_congr {α : Type} {p q : α → Bool} : ∀ (l : List α), (∀ x ∈ l, p x = q x) → l.all p = l.all q
  | [], _ => rfl
  | a :: l, h => by
    rw [List.all_cons, List.all_cons, h a List.mem_cons_self, all_congr l fun x hx => h x (List.mem_cons_of_mem _ hx)]
theorem zip_map_l {α β γ : Type} (f : α → γ) : ∀ (l : List α) (m : List β), (l.map f).zip m = (l.zip m).map fun y => (f y.1, y.2)
  | [], m => by cases m <;> rfl
  | a :: l, [] => rfl
  | a :: l, b :: m => by rw [List.map_cons, List.zip_cons_cons, List.zip_cons_cons, List.map_cons, zip_map_l f l m]
theorem sched_eq {h : HS} (g : HGood h) {l : List Int} (h0 : ∀ v ∈ l, 0 ≤ v) (hl : l.length = h.needs.length * h.bases.length) : Vbemat.isSchedule (toS h) l = isSched h (waysOf h l) := by
  unfold Vbemat.isSchedule isSched
  show (decide (l.length = (loadsOf h).length * h.bases.length) && ((List.range (loadsOf h).length).zip (loadsOf h)).all _) = _
  rw [g.len, decide_eq_true hl, Bool.true_and, ways_eq hl, zip_map_l, List.all_map]
  apply all_congr
  intro y hy
  show (decide ((wayAt h.bases.length l y.1).sum = y.2.need) && ((wayAt h.bases.length l y.1).zip y.2.rooms).all fun z => decide (0 ≤ z.1) && decide (z.1 ≤ z.2)) = rowOk (wayAt h.bases.length l y.1) y.2.need y.2.rooms
  unfold rowOk
  congr 1
  apply all_congr
  intro z hz
  have m := (List.of_mem_zip (show (z.1, z.2) ∈ _ from hz)).1
  unfold wayAt at m
  obtain ⟨t, _, e⟩ := List.mem_map.mp m
  rw [decide_eq_true (by rw [← e]; exact Lev.nth_nonneg h0 _ : 0 ≤ z.1), Bool.true_and]
theorem sim15 {h : HS} (g : HGood h) {l : List Int} (h0 : ∀ v ∈ l, 0 ≤ v) : outc (toS h) (.check l) = (toS h, gCheck h l) := by
  rw [outc_ok (l := if Vbemat.isSchedule (toS h) l = false then [0] else [1, Vbemat.greatest (Vbemat.totals h.bases (Vbemat.columns h.bases.length l (loadsOf h).length)), Vbemat.squares (Vbemat.totals h.bases (Vbemat.columns h.bases.length l (loadsOf h).length))]) rfl]
  unfold gCheck
  by_cases c : l.length = h.needs.length * h.bases.length
  · rw [if_pos (by rw [c, Int.natCast_mul] : (l.length : Int) = (h.needs.length : Int) * h.bases.length), sched_eq g h0 c, g.len, ← ways_fold, ← ways_eq c]
    cases e : isSched h (waysOf h l) with
    | false => rfl
    | true => rfl
  · have n : Vbemat.isSchedule (toS h) l = false := by
      unfold Vbemat.isSchedule
      rw [decide_eq_false (show ¬ l.length = (toS h).loads.length * (toS h).periods by show ¬ l.length = (loadsOf h).length * h.bases.length; rw [g.len]; exact c), Bool.false_and]
    rw [if_pos n, if_neg (fun z => c (by rw [← Int.natCast_mul] at z; omega) : ¬ (l.length : Int) = (h.needs.length : Int) * h.bases.length)]
theorem halve_congr (ok ko : Int → Bool) : ∀ (k : Nat) (lo hi : Int), (∀ a, lo ≤ a → a ≤ hi → ok a = ko a) → Vbemat.halve ok k lo hi = Vbemat.halve ko k lo hi
  | 0, _, _, _ => rfl
  | k + 1, lo, hi, h => by
    unfold Vbemat.halve
    by_cases c : lo < hi
    · rw [if_pos c, if_pos c]
      simp only
      rw [h ((lo + hi + 1) / 2) (by omega) (by omega)]
      by_cases e : ko ((lo + hi + 1) / 2) = true
      · rw [if_pos e, if_pos e]
        exact halve_congr ok ko k _ _ fun a h1 h2 => h a (by omega) h2
      · rw [if_neg e, if_neg e]
        exact halve_congr ok ko k _ _ fun a h1 h2 => h a h1 (by omega)
    · rw [if_neg c, if_neg c]
theorem halve_to {ok : Int → Bool} {k : Nat} {lo hi K : Int} (h : ∀ a, lo ≤ a → a ≤ hi → ok a = decide (a ≤ K)) (h1 : lo ≤ hi) (h2 : hi - lo < 2 ^ k) (h3 : lo ≤ K) (h4 : K ≤ hi) : Vbemat.halve ok k lo hi = K := by
  rw [halve_congr ok (fun a => decide (a ≤ K)) k lo hi h]
  obtain ⟨i1, i2, i3, i4⟩ := Lev.halve_spec (fun a => decide (a ≤ K)) (fun a b hab hb => by simp at hb ⊢; omega) k lo hi h1 h2 (by simpa using h3)
  simp at i3
  by_cases e : Vbemat.halve (fun a => decide (a ≤ K)) k lo hi < K
  · have := i4 K e h4
    simp at this
  · omega
theorem forced_mapAt (g : Load → Load) (p : Nat) : ∀ (l : List Load) (i : Nat) (y : Load), l[i]? = some y → Vbemat.forced (mapAt g i l) p = Vbemat.forced l p - Vbemat.forcedOf y p + Vbemat.forcedOf (g y) p
  | [], i, y, h => by simp at h
  | a :: l, 0, y, h => by
    have : a = y := by simpa using h
    subst this
    show Vbemat.forced (g a :: l) p = _
    rw [Lev.forced_cons, Lev.forced_cons]
    omega
  | a :: l, i + 1, y, h => by
    show Vbemat.forced (a :: mapAt g i l) p = _
    rw [Lev.forced_cons, Lev.forced_cons, forced_mapAt g p l i y (by simpa using h)]
    omega
theorem mapAt_same {α : Type} (g : α → α) : ∀ (l : List α) (i : Nat) (y : α), l[i]? = some y → g y = y → mapAt g i l = l
  | [], i, y, h, _ => by simp at h
  | a :: l, 0, y, h, e => by
    have : a = y := by simpa using h
    subst this
    show g a :: l = _
    rw [e]
  | a :: l, i + 1, y, h, e => by
    show a :: mapAt g i l = _
    rw [mapAt_same g l i y (by simpa using h) e]
theorem could_eq {h : HS} (g : HGood h) {c : Nat} (h1 : 1 ≤ c) (h2 : c ≤ h.needs.length) : Vbemat.couldOf (toS h) c = couldOf h (c - 1) := by
  obtain ⟨el, ei⟩ := loadOf_eq g h1 h2
  generalize ey : (⟨nth h.needs (c - 1), rowAt h (c - 1)⟩ : Load) = y at el ei
  have en : nth h.needs (c - 1) = y.need := by rw [← ey]
  have er : rowAt h (c - 1) = y.rooms := by rw [← ey]
  obtain ⟨a1, a2, a3, a4⟩ := g.good.ld y (List.mem_of_getElem? ei)
  have n0 : ∀ r ∈ y.rooms, 0 ≤ r := fun r hr => (a2 r hr).1
  have hM : 0 ≤ gPeak h := Lev.greatest_nonneg _
  let term : Nat → Int := fun p => gPeak h * Lev.card p h.bases.length - Lev.gT h.bases.length h.bases (Vbemat.forced (loadsOf h)) p + Vbemat.forcedOf y p + (y.rooms.sum - Lev.S (nth y.rooms) p h.bases.length)
  have eK : couldOf h (c - 1) = (List.range (2 ^ h.bases.length)).foldl (fun m p => min m (term p)) 1000000000 := by
    unfold couldOf
    rw [g.least_tells.1, en, er]
    have T1 := Lev.setSums_tells (l := List.replicate h.bases.length (gPeak h)) (n := h.bases.length) (by simp)
    have T2 := Lev.setSums_tells (l := y.rooms) a1
    have T3 := Lev.forcedBy_tells y a1
    have full : nth (Lev.setSums y.rooms) ((Lev.setSums y.rooms).length - 1) = y.rooms.sum := by
      rw [T2.1, T2.2 _ (Lev.full_lt _), Lev.sum_eq_S y.rooms, a1]
    have : ∀ (L : List Nat) (m : Int), (∀ p ∈ L, p < 2 ^ h.bases.length) → L.foldl (couldStep (Lev.setSums (List.replicate h.bases.length (gPeak h))) (Lev.setSums y.rooms) (Lev.forcedBy y.need y.rooms) (gLeast h)) m = L.foldl (fun m p => min m (term p)) m := by
      intro L
      induction L with
      | nil => intro m _; rfl
      | cons p L ih =>
        intro m hp
        have hp0 := hp p List.mem_cons_self
        rw [List.foldl_cons, List.foldl_cons, ih _ fun q hq => hp q (List.mem_cons_of_mem _ hq)]
        congr 1
        unfold couldStep
        rw [full, T1.2 p hp0, T2.2 p hp0, T3.2 p hp0, g.least_tells.2 p hp0]
        have e : Lev.S (nth (List.replicate h.bases.length (gPeak h))) p h.bases.length = gPeak h * Lev.card p h.bases.length := by
          rw [← Lev.S_const]
          exact Lev.S_congr (fun _ _ => rfl) fun t ht _ => Lev.nth_replicate _ ht
        show min m (Lev.S (nth (List.replicate h.bases.length (gPeak h))) p h.bases.length - _ + _ + _) = _
        rw [e]
    exact this _ _ fun p hp => List.mem_range.mp hp
  have FM := Lev.fold_min term (List.range (2 ^ h.bases.length)) 1000000000
  rw [← eK] at FM
  have hG : ∀ a : Int, y.need ≤ a → a ≤ min Vbemat.AMOUNT y.rooms.sum → Lev.Good h.bases.length h.bases (mapAt (fun z => { z with need := a }) (c - 1) (loadsOf h)) := fun a l1 l2 => by
    have l2 : a ≤ min 1000000000 y.rooms.sum := l2
    refine ⟨g.good.n8, g.good.bl, g.good.b0, by rw [len_mapAt]; exact g.good.l8, fun x hx => ?_⟩
    rcases mem_mapAt _ _ _ _ hx with z | ⟨u, hu, rfl⟩
    · exact g.good.ld x z
    · rw [ei] at hu
      cases hu
      exact ⟨a1, a2, ⟨by show 0 ≤ a; omega, by show a ≤ 1000000000; omega⟩, by show a ≤ y.rooms.sum; omega⟩
  have now : ∀ p, p < 2 ^ h.bases.length → Lev.gT h.bases.length h.bases (Vbemat.forced (loadsOf h)) p ≤ gPeak h * Lev.card p h.bases.length := by
    have := (Lev.peak_le_iff g.good hM).mp (by rw [← Lev.totalsOf_eq g.good]; exact Int.le_refl _)
    exact this
  have okI : ∀ a : Int, y.need ≤ a → a ≤ min Vbemat.AMOUNT y.rooms.sum → (decide (Vbemat.greatest (Vbemat.planned (Vbemat.withLoad (toS h) c fun z => { z with need := a })) ≤ Vbemat.greatest (Vbemat.planned (toS h)))) = decide (a ≤ couldOf h (c - 1)) := fun a l1 l2 => by
    rw [planned_eq g]
    apply decide_eq_decide.mpr
    have P := Lev.peak_le_iff (hG a l1 l2) hM
    have l2 : a ≤ min 1000000000 y.rooms.sum := l2
    show Vbemat.greatest (Vbemat.totals h.bases (Vbemat.level h.bases.length h.bases (mapAt (fun z => { z with need := a }) (c - 1) (loadsOf h)))) ≤ gPeak h ↔ _
    rw [P]
    have each : ∀ p, p < 2 ^ h.bases.length → (Lev.gT h.bases.length h.bases (Vbemat.forced (mapAt (fun z => { z with need := a }) (c - 1) (loadsOf h))) p ≤ gPeak h * Lev.card p h.bases.length ↔ a ≤ term p) := fun p hp => by
      have n1 := now p hp
      have n2 := Lev.forcedOf_nonneg (x := y) p
      have e1 := Lev.forcedOf_eq (x := { y with need := a }) a1 p
      have e1 : Vbemat.forcedOf { y with need := a } p = max 0 (a - y.rooms.sum + Lev.S (nth y.rooms) p h.bases.length) := e1
      show Vbemat.forced (mapAt (fun z => { z with need := a }) (c - 1) (loadsOf h)) p + Lev.S (nth h.bases) p h.bases.length ≤ _ ↔ a ≤ gPeak h * Lev.card p h.bases.length - (Vbemat.forced (loadsOf h) p + Lev.S (nth h.bases) p h.bases.length) + Vbemat.forcedOf y p + (y.rooms.sum - Lev.S (nth y.rooms) p h.bases.length)
      have n1 : Vbemat.forced (loadsOf h) p + Lev.S (nth h.bases) p h.bases.length ≤ gPeak h * Lev.card p h.bases.length := n1
      rw [forced_mapAt _ p _ _ y ei, e1]
      generalize gPeak h * Lev.card p h.bases.length = M at n1 ⊢
      omega
    constructor
    · intro k
      rcases FM.2.2 with e | ⟨p, hp, e⟩
      · rw [e]; omega
      · rw [e]
        have hp := List.mem_range.mp hp
        exact (each p hp).mp (k p hp)
    · intro k p hp
      have := FM.2.1 p (List.mem_range.mpr hp)
      exact (each p hp).mpr (by omega)
  unfold Vbemat.couldOf
  show Vbemat.halve (fun a => decide (Vbemat.greatest (Vbemat.planned (Vbemat.withLoad (toS h) c fun z => { z with need := a })) ≤ Vbemat.greatest (Vbemat.planned (toS h)))) 64 (Vbemat.loadOf (toS h) c).need (min Vbemat.AMOUNT (Vbemat.loadOf (toS h) c).rooms.sum) = _
  rw [el]
  have hmin : y.need ≤ min Vbemat.AMOUNT y.rooms.sum := by
    show y.need ≤ min 1000000000 y.rooms.sum; omega
  have lo := okI y.need (Int.le_refl _) hmin
  refine halve_to okI hmin ?_ ?_ ?_
  · have : min Vbemat.AMOUNT y.rooms.sum ≤ 1000000000 := by show min 1000000000 y.rooms.sum ≤ _; omega
    have p64 : (2 : Int) ^ 64 = 18446744073709551616 := by decide
    rw [p64]
    omega
  · apply of_decide_eq_true
    rw [← lo]
    apply decide_eq_true
    show Vbemat.greatest (Vbemat.planned { toS h with loads := mapAt (fun z => { z with need := y.need }) (c - 1) (loadsOf h) }) ≤ _
    rw [mapAt_same _ _ _ y ei rfl]
    exact Int.le_refl _
  · have k1 := FM.1
    have k2 := FM.2.1 0 (List.mem_range.mpr (Nat.two_pow_pos _))
    have k3 : term 0 = y.rooms.sum := by
      show gPeak h * Lev.card 0 h.bases.length - Lev.gT h.bases.length h.bases (Vbemat.forced (loadsOf h)) 0 + Vbemat.forcedOf y 0 + (y.rooms.sum - Lev.S (nth y.rooms) 0 h.bases.length) = _
      have z1 : Lev.card 0 h.bases.length = 0 := Lev.S_zero_set _ _
      have z2 := (Lev.gT_super (base := h.bases) g.good.sup).zero
      have z3 := (Lev.forcedOf_super a1 n0 a4).zero
      rw [z1, z2, z3, Lev.S_zero_set, Int.mul_zero]
      omega
    rw [k3] at k2
    show _ ≤ min 1000000000 y.rooms.sum
    omega
theorem sim18 {h : HS} (g : HGood h) {c : Int} (hc : 1 ≤ c) : outc (toS h) (.could c.toNat) = (toS h, gCould h c) := by
  have e := noLoad_eq g hc
  unfold gCould
  by_cases c1 : (h.needs.length : Int) < c
  · rw [if_pos c1]
    exact outc_er (by show (if Vbemat.noLoad (toS h) c.toNat = true then _ else _) = _; rw [if_pos (by rw [e]; simpa using c1)])
  · rw [if_neg c1, outc_ok (l := [Vbemat.couldOf (toS h) c.toNat]) (by show (if Vbemat.noLoad (toS h) c.toNat = true then _ else _) = _; rw [if_neg (by rw [e]; simpa using c1)]), could_eq g (by omega) (by omega)]
end Hs
end
section
set_option Elab.async false
set_option linter.all false
set_option maxRecDepth 100000
set_option maxHeartbeats 4000000
namespace Hs
open Vbemat (nth setAt mapAt Load)
theorem in_T (n : Int) : Vbemat.isT n = (decide (1 ≤ n) && decide (n ≤ 8)) := rfl
theorem in_C (n : Int) : Vbemat.isC n = (decide (1 ≤ n) && decide (n ≤ 8)) := rfl
theorem in_A (n : Int) : Vbemat.isA n = (decide (0 ≤ n) && decide (n ≤ 1000000000)) := rfl
def CallOf (c : List (List Int)) (q : Nat) (nums row : List Int) : Prop := ∃ rows : List (List Int), c = ((q : Int) :: nums) :: rows ∧ row = rows.headD [] ∧ ∃ n k : Nat, PyVbemat.shape q = some (n, k) ∧ nums.length = n ∧ rows.length = k
theorem one_nil {l : List Int} (h : l.length = 0) : l = [] := List.length_eq_zero_iff.mp h
theorem one_one {l : List Int} (h : l.length = 1) : ∃ a, l = [a] := List.length_eq_one_iff.mp h
theorem one_two {l : List Int} (h : l.length = 2) : ∃ a b, l = [a, b] := by
  match l, h with
  | [a, b], _ => exact ⟨a, b, rfl⟩
theorem one_three {l : List Int} (h : l.length = 3) : ∃ a b c, l = [a, b, c] := by
  match l, h with
  | [a, b, c], _ => exact ⟨a, b, c, rfl⟩
theorem rows_one {l : List (List Int)} (h : l.length = 1) : ∃ a, l = [a] := List.length_eq_one_iff.mp h
theorem rows_nil {l : List (List Int)} (h : l.length = 0) : l = [] := List.length_eq_zero_iff.mp h
theorem sim_call {h : HS} (g : HGood h) {c : List (List Int)} {q : Nat} {nums row : List Int} (hc : CallOf c q nums row) (hq : q < 21) : Vbemat.stepNumbers (toS h) c = lift (mAnswer h q nums row) ∧ nums.length = ((ranges[q]?).getD []).length ∧ PyVbemat.whole c = c := by
  obtain ⟨rows, rfl, rfl, n, k, hs, hn, hk⟩ := hc
  match q, hq with
  | 0, _ =>
    cases hs
    obtain ⟨x0, rfl⟩ := one_one hn
    cases rows_nil hk
    exact ⟨step_of (C := .opens x0.toNat) (by show Vbemat.guard (Vbemat.isT x0) _ = _; congr 1; simp [callIn, numsIn, rowIn, ranges, rowsOf, in_T, in_C, in_A]) rfl (fun _ _ => sim0 h x0), rfl, rfl⟩
  | 1, _ =>
    cases hs
    obtain ⟨x0, rfl⟩ := one_one hn
    obtain ⟨r, rfl⟩ := rows_one hk
    exact ⟨step_of (C := .load x0 r) (by show Vbemat.guard (Vbemat.isA x0 && (decide (r.length ≤ 8) && r.all Vbemat.isA)) _ = _; congr 1; simp [callIn, numsIn, rowIn, ranges, rowsOf, in_T, in_C, in_A, show Vbemat.isA = fun n => (decide (0 ≤ n) && decide (n ≤ 1000000000)) from rfl]) rfl (fun _ _ => sim1 g x0 r), rfl, rfl⟩
  | 2, _ =>
    cases hs
    obtain ⟨x0, x1, rfl⟩ := one_two hn
    cases rows_nil hk
    exact ⟨step_of (C := .need x0.toNat x1) (by show Vbemat.guard (Vbemat.isC x0 && Vbemat.isA x1) _ = _; congr 1; simp [callIn, numsIn, rowIn, ranges, rowsOf, in_T, in_C, in_A]) rfl (fun i _ => sim2 g (InR.num (q := 2) ⟨i, rfl⟩ 0 (1, 8) rfl).2.1 x1), rfl, rfl⟩
  | 3, _ =>
    cases hs
    obtain ⟨x0, x1, x2, rfl⟩ := one_three hn
    cases rows_nil hk
    exact ⟨step_of (C := .room x0.toNat x1.toNat x2) (by show Vbemat.guard (Vbemat.isC x0 && (Vbemat.isT x1 && Vbemat.isA x2)) _ = _; congr 1; simp [callIn, numsIn, rowIn, ranges, rowsOf, in_T, in_C, in_A]) rfl (fun i _ => sim3 g (InR.num (q := 3) ⟨i, rfl⟩ 0 (1, 8) rfl).2.1 (InR.num (q := 3) ⟨i, rfl⟩ 1 (1, 8) rfl).2.1 x2), rfl, rfl⟩
  | 4, _ =>
    cases hs
    obtain ⟨x0, x1, rfl⟩ := one_two hn
    cases rows_nil hk
    exact ⟨step_of (C := .base x0.toNat x1) (by show Vbemat.guard (Vbemat.isT x0 && Vbemat.isA x1) _ = _; congr 1; simp [callIn, numsIn, rowIn, ranges, rowsOf, in_T, in_C, in_A]) rfl (fun i _ => sim4 (InR.num (q := 4) ⟨i, rfl⟩ 0 (1, 8) rfl).2.1 x1), rfl, rfl⟩
  | 5, _ =>
    cases hs
    cases one_nil hn
    cases rows_nil hk
    exact ⟨step_of (C := .add) rfl rfl (fun _ _ => sim5 g), rfl, rfl⟩
  | 6, _ =>
    cases hs
    cases one_nil hn
    obtain ⟨r, rfl⟩ := rows_one hk
    exact ⟨step_of (C := .pass r) (by show Vbemat.guard (decide (r.length ≤ 8) && r.all Vbemat.isA) _ = _; congr 1) rfl (fun i _ => sim6 g fun v hv => ((InR.row (q := 6) ⟨i, rfl⟩ (z := (8, 0, 1000000000)) rfl).2 v hv).1), rfl, rfl⟩
  | 7, _ =>
    cases hs
    cases one_nil hn
    cases rows_nil hk
    exact ⟨step_of (C := .totals) rfl rfl (fun _ _ => sim7 g), rfl, rfl⟩
  | 8, _ =>
    cases hs
    cases one_nil hn
    cases rows_nil hk
    exact ⟨step_of (C := .amounts) rfl rfl (fun _ _ => sim8 g), rfl, rfl⟩
  | 9, _ =>
    cases hs
    cases one_nil hn
    cases rows_nil hk
    exact ⟨step_of (C := .shares) rfl rfl (fun _ _ => sim9 g), rfl, rfl⟩
  | 10, _ =>
    cases hs
    cases one_nil hn
    cases rows_nil hk
    exact ⟨step_of (C := .peak) rfl rfl (fun _ _ => sim10 g), rfl, rfl⟩
  | 11, _ =>
    cases hs
    obtain ⟨x0, rfl⟩ := one_one hn
    cases rows_nil hk
    exact ⟨step_of (C := .top x0.toNat) (by show Vbemat.guard (Vbemat.isT x0) _ = _; congr 1; simp [callIn, numsIn, rowIn, ranges, rowsOf, in_T, in_C, in_A]) rfl (fun _ _ => sim11 g x0), rfl, rfl⟩
  | 12, _ =>
    cases hs
    cases one_nil hn
    cases rows_nil hk
    exact ⟨step_of (C := .squares) rfl rfl (fun _ _ => sim12 g), rfl, rfl⟩
  | 13, _ =>
    cases hs
    cases one_nil hn
    obtain ⟨r, rfl⟩ := rows_one hk
    exact ⟨step_of (C := .forced r) (by show Vbemat.guard (decide (r.length ≤ 8) && r.all Vbemat.isT) _ = _; congr 1) rfl (fun _ _ => sim13 g r), rfl, rfl⟩
  | 14, _ =>
    cases hs
    cases one_nil hn
    cases rows_nil hk
    exact ⟨step_of (C := .because) rfl rfl (fun _ _ => sim14 g), rfl, rfl⟩
  | 15, _ =>
    cases hs
    cases one_nil hn
    obtain ⟨r, rfl⟩ := rows_one hk
    exact ⟨step_of (C := .check r) (by show Vbemat.guard (decide (r.length ≤ 64) && r.all Vbemat.isA) _ = _; congr 1) rfl (fun i _ => sim15 g fun v hv => ((InR.row (q := 15) ⟨i, rfl⟩ (z := (64, 0, 1000000000)) rfl).2 v hv).1), rfl, rfl⟩
  | 16, _ =>
    cases hs
    obtain ⟨x0, x1, rfl⟩ := one_two hn
    cases rows_nil hk
    exact ⟨step_of (C := .slack x0.toNat x1.toNat) (by show Vbemat.guard (Vbemat.isT x0 && Vbemat.isT x1) _ = _; congr 1; simp [callIn, numsIn, rowIn, ranges, rowsOf, in_T, in_C, in_A]) rfl (fun i _ => sim16 g (InR.num (q := 16) ⟨i, rfl⟩ 0 (1, 8) rfl).2.1 (InR.num (q := 16) ⟨i, rfl⟩ 1 (1, 8) rfl).2.1), rfl, rfl⟩
  | 17, _ =>
    cases hs
    obtain ⟨x0, rfl⟩ := one_one hn
    cases rows_nil hk
    exact ⟨step_of (C := .fits x0) (by show Vbemat.guard (Vbemat.inside x0 0 (10 * Vbemat.AMOUNT)) _ = _; congr 1; simp [callIn, numsIn, rowIn, ranges, rowsOf, Vbemat.inside, Vbemat.AMOUNT]; rfl) rfl (fun _ _ => sim17 g x0), rfl, rfl⟩
  | 18, _ =>
    cases hs
    obtain ⟨x0, rfl⟩ := one_one hn
    cases rows_nil hk
    exact ⟨step_of (C := .could x0.toNat) (by show Vbemat.guard (Vbemat.isC x0) _ = _; congr 1; simp [callIn, numsIn, rowIn, ranges, rowsOf, in_T, in_C, in_A]) rfl (fun i _ => sim18 g (InR.num (q := 18) ⟨i, rfl⟩ 0 (1, 8) rfl).2.1), rfl, rfl⟩
  | 19, _ =>
    cases hs
    obtain ⟨x0, rfl⟩ := one_one hn
    cases rows_nil hk
    exact ⟨step_of (C := .info x0.toNat) (by show Vbemat.guard (Vbemat.isC x0) _ = _; congr 1; simp [callIn, numsIn, rowIn, ranges, rowsOf, in_T, in_C, in_A]) rfl (fun i _ => sim19 g (InR.num (q := 19) ⟨i, rfl⟩ 0 (1, 8) rfl).2.1), rfl, rfl⟩
  | 20, _ =>
    cases hs
    cases one_nil hn
    cases rows_nil hk
    exact ⟨step_of (C := .state) rfl rfl (fun _ _ => sim20 g), rfl, rfl⟩
def IsCall (c : List (List Int)) : Prop := ∃ (q : Nat) (nums row : List Int), q < 21 ∧ CallOf c q nums row
theorem step_call {h : HS} (g : HGood h) {c : List (List Int)} (hc : IsCall c) : VbematNeutral.step (toS h) c = (toS (mStep h c).1, (mStep h c).2) ∧ HGood (mStep h c).1 ∧ PyVbemat.whole c = c := by
  obtain ⟨q, nums, row, hq, hc⟩ := hc
  obtain ⟨e, hl, hw⟩ := sim_call g hc hq
  obtain ⟨rows, rfl, rfl, _⟩ := hc
  exact ⟨e, good_answer h q nums _ g hq hl, hw⟩
theorem played_eq : ∀ (cs : List (List (List Int))) (h : HS), HGood h → (∀ c ∈ cs, IsCall c) → PyFlat.played VbematNeutral.step (toS h) (cs.map PyVbemat.whole) = PyFlat.played mStep h cs
  | [], _, _, _ => rfl
  | c :: cs, h, g, hc => by
    obtain ⟨e, g', hw⟩ := step_call g (hc c List.mem_cons_self)
    rw [List.map_cons, hw]
    show (VbematNeutral.step (toS h) c).2 :: PyFlat.played VbematNeutral.step (VbematNeutral.step (toS h) c).1 (cs.map PyVbemat.whole) = (mStep h c).2 :: PyFlat.played mStep (mStep h c).1 cs
    rw [e, played_eq cs _ g' fun x hx => hc x (List.mem_cons_of_mem _ hx)]
theorem rows_len : ∀ (k : Nat) (r : List Int) (xs : List (List Int)) (t : List Int), PyFlat.rows k r = some (xs, t) → xs.length = k
  | 0, r, xs, t, h => by
    cases h; rfl
  | k + 1, r, xs, t, h => by
    unfold PyFlat.rows at h
    cases e : PyFlat.row r with
    | none => rw [e] at h; cases h
    | some z =>
      obtain ⟨x, s⟩ := z
      rw [e] at h
      cases e2 : PyFlat.rows k s with
      | none => simp only [e2] at h; cases h
      | some z2 =>
        obtain ⟨ys, u⟩ := z2
        simp only [e2] at h
        cases h
        rw [List.length_cons, rows_len k s _ _ e2]
theorem shape_some {p : Int} {z : Nat × Nat} (h : PyVbemat.shape p = some z) : ∃ q : Nat, p = q ∧ q < 21 := by
  by_cases c : 0 ≤ p ∧ p < 21
  · exact ⟨p.toNat, by omega, by omega⟩
  · unfold PyVbemat.shape at h
    iterate 21 rw [if_neg (by omega)] at h
    cases h
theorem call_is {l : List Int} {c : List (List Int)} {t : List Int} (h : PyFlat.call PyVbemat.shape l = some (c, t)) : IsCall c := by
  cases l with
  | nil => cases h
  | cons p r =>
    unfold PyFlat.call at h
    cases e : PyVbemat.shape p with
    | none => simp only [e] at h; cases h
    | some z =>
      obtain ⟨n, k⟩ := z
      simp only [e] at h
      by_cases c1 : r.length < n
      · rw [if_pos c1] at h; cases h
      · rw [if_neg c1] at h
        cases e2 : PyFlat.rows k (r.drop n) with
        | none => simp only [e2] at h; cases h
        | some z2 =>
          obtain ⟨xs, u⟩ := z2
          simp only [e2] at h
          cases h
          obtain ⟨q, rfl, hq⟩ := shape_some e
          exact ⟨q, r.take n, xs.headD [], hq, xs, rfl, rfl, n, k, e, by rw [List.length_take]; omega, rows_len _ _ _ _ e2⟩
theorem calls_are : ∀ (f : Nat) (l : List Int) (cs : List (List (List Int))), PyFlat.calls PyVbemat.shape f l = some cs → ∀ c ∈ cs, IsCall c
  | f, [], cs, h => by
    unfold PyFlat.calls at h
    cases h
    intro c hc; cases hc
  | 0, p :: r, cs, h => by cases h
  | f + 1, p :: r, cs, h => by
    unfold PyFlat.calls at h
    cases e : PyFlat.call PyVbemat.shape (p :: r) with
    | none => simp only [e] at h; cases h
    | some z =>
      obtain ⟨c, t⟩ := z
      simp only [e] at h
      cases e2 : PyFlat.calls PyVbemat.shape f t with
      | none => simp only [e2] at h; cases h
      | some ds =>
        simp only [e2] at h
        cases h
        intro x hx
        rcases List.mem_cons.mp hx with z | z
        · rw [z]; exact call_is e
        · exact calls_are f t ds e2 x z
theorem due_eq {l : List Int} {cs : List (List (List Int))} (h : PyFlat.calls PyVbemat.shape l.length l = some cs) : PyVbemat.answers l = PyFlat.told (PyFlat.played mStep h0 cs) := by
  unfold PyVbemat.answers PyVbemat.calls
  rw [h]
  show PyFlat.told (PyFlat.played VbematNeutral.step (toS h0) (cs.map PyVbemat.whole)) = _
  rw [played_eq cs h0 good_h0 (calls_are _ _ _ h)]
end Hs
end
section
set_option Elab.async false
set_option linter.all false
set_option maxRecDepth 100000
set_option maxHeartbeats 4000000
namespace Hs
open PySem PySem.Spec
open PyProof.Rows hiding St
open L2
section
variable {P : Program} {w : World} {K : PySem.W.Frag} {mg : Str → Option Value} {base : Heap}
theorem us1 {p : List Value → Prop} {x0 : Str} (h : ∀ a0, p [a0]) : ∀ us : List Value, us.length = [x0].length → p us
  | [a0], _ => h _
theorem us2 {p : List Value → Prop} {x0 x1 : Str} (h : ∀ a0 a1, p [a0, a1]) : ∀ us : List Value, us.length = [x0, x1].length → p us
  | [a0, a1], _ => h _ _
theorem us3 {p : List Value → Prop} {x0 x1 x2 : Str} (h : ∀ a0 a1 a2, p [a0, a1, a2]) : ∀ us : List Value, us.length = [x0, x1, x2].length → p us
  | [a0, a1, a2], _ => h _ _ _
theorem us4 {p : List Value → Prop} {x0 x1 x2 x3 : Str} (h : ∀ a0 a1 a2 a3, p [a0, a1, a2, a3]) : ∀ us : List Value, us.length = [x0, x1, x2, x3].length → p us
  | [a0, a1, a2, a3], _ => h _ _ _ _
theorem us5 {p : List Value → Prop} {x0 x1 x2 x3 x4 : Str} (h : ∀ a0 a1 a2 a3 a4, p [a0, a1, a2, a3, a4]) : ∀ us : List Value, us.length = [x0, x1, x2, x3, x4].length → p us
  | [a0, a1, a2, a3, a4], _ => h _ _ _ _ _
def GF (K : PySem.W.Frag) (x : Str) (st : Stmt) : Prop := ∃ (f : Addr) (fd : FuncData), PySem.W.nsIn K mainGlobals x = some (some (.ref f)) ∧ Fun K x x st f fd
def GM (K : PySem.W.Frag) (C : Addr) (m qual : Str) (st : Stmt) : Prop := ∃ (f : Addr) (fd : FuncData), Meth K C m f ∧ Fun K m qual st f fd
theorem gf_of {x : Str} {st : Stmt} {f : Addr} {oc : Value} {od an : Option Addr} {osl : Array (Option Value)} {kV doc pm cdv ct : Value} (a : PySem.W.nsIn K mainGlobals x = some (some (.ref f)))
    (l : K.lookup f = some ⟨oc, od, .func (PySem.W.fnOf x x (defArgs st) (defBody st) (defScope st) .none kV doc pm an cdv ct), osl⟩) (c : PySem.W.codeIn K cdv x = true) (k : PySem.W.keepIn K (.ref f) = true) : GF K x st := ⟨f, _, a, fun_mk l c k⟩
theorem gm_of {C : Addr} {m qual : Str} {st : Stmt} {f : Addr} {oc : Value} {od an : Option Addr} {osl : Array (Option Value)} {kV doc pm cdv ct : Value} (a : PySem.W.findIn K (.ref C) m = some (some (.ref f))) (i : PySem.W.isFn K (.ref f) = true)
    (l : K.lookup f = some ⟨oc, od, .func (PySem.W.fnOf m qual (defArgs st) (defBody st) (defScope st) .none kV doc pm an cdv ct), osl⟩) (c : PySem.W.codeIn K cdv qual = true) (k : PySem.W.keepIn K (.ref f) = true) : GM K C m qual st := ⟨f, _, ⟨a, i, k⟩, fun_mk l c k⟩
theorem GF.cal {x : Str} {st : Stmt} {h : Heap} {k : Nat} {ps : List Str} {sp : Sp} (g : GF K x st) (X : K.In h) (G : h.Ns mainGlobals mg)
    (hb : ∀ (kV doc pm : Value) (an : Option Addr) (cdv ct : Value) (us : List Value), us.length = ps.length → bindArgs (PySem.W.fnOf x x (defArgs st) (defBody st) (defScope st) .none kV doc pm an cdv ct) ⟨us, []⟩ = pure (ps.zip us))
    (ok : ∀ f fd, Fun K x x st f fd → FnOk P w K mg base CX0 k f fd ps sp) : Cal P w K mg base k x ps sp := by
  obtain ⟨f, fd, a, F⟩ := g
  exact ⟨⟨f, fd, PySem.W.mg_of X G a, F.kp, F.binds hb, ok f fd F⟩⟩
theorem GM.met {C : Addr} {m qual : Str} {st : Stmt} {k : Nat} {ps : List Str} {sp : Sp} (g : GM K C m qual st)
    (hb : ∀ (kV doc pm : Value) (an : Option Addr) (cdv ct : Value) (us : List Value), us.length = ps.length → bindArgs (PySem.W.fnOf m qual (defArgs st) (defBody st) (defScope st) .none kV doc pm an cdv ct) ⟨us, []⟩ = pure (ps.zip us))
    (ok : ∀ f fd, Fun K m qual st f fd → FnOk P w K mg base CX0 k f fd ps sp) : Met P w K mg base C k m ps sp := by
  obtain ⟨f, fd, a, F⟩ := g
  exact ⟨⟨f, fd, a, F.binds hb, ok f fd F⟩⟩
structure GC (K : PySem.W.Frag) (C : Addr) : Prop where
  cl : Cls K C
  makes : PySem.W.makesIn K C = true
  kc : PySem.W.keepIn K (.ref C) = true
theorem gc_of {C : Addr} (pg : PySem.W.plainGet K C Str.empty = true) (hd : PySem.W.hasDictIn K C = true) (po : PySem.W.plainOver K C = true) (sa : PySem.W.findIn K (.ref C) "__setattr__" = some (some (.builtin "object.__setattr__"))) (mk : PySem.W.makesIn K C = true) (kc : PySem.W.keepIn K (.ref C) = true) : GC K C := ⟨⟨pg, hd, po, sa⟩, mk, kc⟩
theorem GC.make {C : Addr} {x qual : Str} {st : Stmt} {h : Heap} {k : Nat} {ps : List Str} {sp : Sp} (c : GC K C) (a : PySem.W.nsIn K mainGlobals x = some (some (.ref C))) (g : GM K C "__init__" qual st) (X : K.In h) (G : h.Ns mainGlobals mg)
    (hb : ∀ (kV doc pm : Value) (an : Option Addr) (cdv ct : Value) (us : List Value), us.length = ps.length → bindArgs (PySem.W.fnOf "__init__" qual (defArgs st) (defBody st) (defScope st) .none kV doc pm an cdv ct) ⟨us, []⟩ = pure (ps.zip us))
    (ok : ∀ f fd, Fun K "__init__" qual st f fd → FnOk P w K mg base CX0 k f fd ps sp) : Mkr P w K mg base k x C ps sp := by
  obtain ⟨f, fd, m, F⟩ := g
  exact ⟨⟨f, fd, PySem.W.mg_of X G a, ⟨c.makes, m.at_, m.fn, c.kc⟩, F.binds hb, ok f fd F⟩⟩
theorem kt_of {a : Addr} {od : Option Addr} {its : Array Value} {n : Nat} {sl : Array (Option Value)} {xs : List V} (l : K.lookup a = some ⟨.type "tuple", od, .seq its n, sl⟩) (hs : its.size ≤ sizeLine) (hv : Vals xs its.toList) : KT K a xs := ⟨_, its, n, l, rfl, rfl, hs, hv⟩
def P0 (K : PySem.W.Frag) (a : Addr) : Prop := KT K a []
def P1 (K : PySem.W.Frag) (a : Addr) (x y : Int) : Prop := KT K a [.int x, .int y]
def P3 (K : PySem.W.Frag) (a : Addr) (x y z : Int) : Prop := KT K a [.int x, .int y, .int z]
theorem p0_of {a : Addr} {od : Option Addr} {n : Nat} {sl : Array (Option Value)} (l : K.lookup a = some ⟨.type "tuple", od, .seq #[] n, sl⟩) : P0 K a := kt_of l (by decide) .nil
theorem p1_of {a : Addr} {od : Option Addr} {n : Nat} {sl : Array (Option Value)} {x y : Int} {t u : Tok} (l : K.lookup a = some ⟨.type "tuple", od, .seq #[.int x t, .int y u] n, sl⟩) : P1 K a x y := kt_of l (by show 2 ≤ sizeLine; decide) (.cons ⟨_, rfl⟩ (.cons ⟨_, rfl⟩ .nil))
theorem p3_of {a : Addr} {od : Option Addr} {n : Nat} {sl : Array (Option Value)} {x y z : Int} {t u v : Tok} (l : K.lookup a = some ⟨.type "tuple", od, .seq #[.int x t, .int y u, .int z v] n, sl⟩) : P3 K a x y z := kt_of l (by show 3 ≤ sizeLine; decide) (.cons ⟨_, rfl⟩ (.cons ⟨_, rfl⟩ (.cons ⟨_, rfl⟩ .nil)))
def RG (K : PySem.W.Frag) (a : Addr) (rg : List (Int × Int)) : Prop := ∃ ps : List Addr, KT K a (ps.map V.ref) ∧ Pairs1 K ps rg
theorem rg0 {a : Addr} (h : P0 K a) : RG K a [] := ⟨[], h, rfl, fun j p z e _ => by simp at e⟩
theorem rg1 {a p : Addr} {od : Option Addr} {n : Nat} {sl : Array (Option Value)} {x y : Int} (l : K.lookup a = some ⟨.type "tuple", od, .seq #[.ref p] n, sl⟩) (h : P1 K p x y) : RG K a [(x, y)] := by
  refine ⟨[p], kt_of l (by show 1 ≤ sizeLine; decide) (.cons rfl .nil), rfl, fun j q z e e2 => ?_⟩
  match j, e, e2 with
  | 0, e, e2 => cases e; cases e2; exact h
theorem rg2 {a p p' : Addr} {od : Option Addr} {n : Nat} {sl : Array (Option Value)} {x y x' y' : Int} (l : K.lookup a = some ⟨.type "tuple", od, .seq #[.ref p, .ref p'] n, sl⟩) (h : P1 K p x y) (h' : P1 K p' x' y') : RG K a [(x, y), (x', y')] := by
  refine ⟨[p, p'], kt_of l (by show 2 ≤ sizeLine; decide) (.cons rfl (.cons rfl .nil)), rfl, fun j q z e e2 => ?_⟩
  match j, e, e2 with
  | 0, e, e2 => cases e; cases e2; exact h
  | 1, e, e2 => cases e; cases e2; exact h'
theorem rg3 {a p p' p'' : Addr} {od : Option Addr} {n : Nat} {sl : Array (Option Value)} {x y x' y' x'' y'' : Int} (l : K.lookup a = some ⟨.type "tuple", od, .seq #[.ref p, .ref p', .ref p''] n, sl⟩) (h : P1 K p x y) (h' : P1 K p' x' y') (h'' : P1 K p'' x'' y'') : RG K a [(x, y), (x', y'), (x'', y'')] := by
  refine ⟨[p, p', p''], kt_of l (by show 3 ≤ sizeLine; decide) (.cons rfl (.cons rfl (.cons rfl .nil))), rfl, fun j q z e e2 => ?_⟩
  match j, e, e2 with
  | 0, e, e2 => cases e; cases e2; exact h
  | 1, e, e2 => cases e; cases e2; exact h'
  | 2, e, e2 => cases e; cases e2; exact h''
def GN (K : PySem.W.Frag) : Prop := ∃ (tn : Addr) (as : List Addr), PySem.W.nsIn K mainGlobals "NUMBERS" = some (some (.ref tn)) ∧ KT K tn (as.map V.ref) ∧ as.length = 21 ∧ ∀ (q : Nat) (a : Addr), as[q]? = some a → ∃ ps : List Addr, KT K a (ps.map V.ref) ∧ Pairs1 K ps ((ranges[q]?).getD [])
theorem gn_of {tn a0 a1 a2 a3 a4 a5 a6 a7 a8 a9 a10 a11 a12 a13 a14 a15 a16 a17 a18 a19 a20 : Addr} {od : Option Addr} {n : Nat} {sl : Array (Option Value)} (g : PySem.W.nsIn K mainGlobals "NUMBERS" = some (some (.ref tn)))
    (l : K.lookup tn = some ⟨.type "tuple", od, .seq #[.ref a0, .ref a1, .ref a2, .ref a3, .ref a4, .ref a5, .ref a6, .ref a7, .ref a8, .ref a9, .ref a10, .ref a11, .ref a12, .ref a13, .ref a14, .ref a15, .ref a16, .ref a17, .ref a18, .ref a19, .ref a20] n, sl⟩)
    (h0 : RG K a0 [(1, 8)]) (h1 : RG K a1 [(0, 1000000000)]) (h2 : RG K a2 [(1, 8), (0, 1000000000)]) (h3 : RG K a3 [(1, 8), (1, 8), (0, 1000000000)]) (h4 : RG K a4 [(1, 8), (0, 1000000000)]) (h5 : RG K a5 []) (h6 : RG K a6 []) (h7 : RG K a7 []) (h8 : RG K a8 []) (h9 : RG K a9 []) (h10 : RG K a10 [])
    (h11 : RG K a11 [(1, 8)]) (h12 : RG K a12 []) (h13 : RG K a13 []) (h14 : RG K a14 []) (h15 : RG K a15 []) (h16 : RG K a16 [(1, 8), (1, 8)]) (h17 : RG K a17 [(0, 10000000000)]) (h18 : RG K a18 [(1, 8)]) (h19 : RG K a19 [(1, 8)]) (h20 : RG K a20 []) : GN K := by
  refine ⟨tn, [a0, a1, a2, a3, a4, a5, a6, a7, a8, a9, a10, a11, a12, a13, a14, a15, a16, a17, a18, a19, a20], g, kt_of l (by show 21 ≤ sizeLine; decide) (by repeat first | exact .nil | refine .cons rfl ?_), rfl, fun q a e => ?_⟩
  match q, e with
  | 0, e => cases e; exact h0
  | 1, e => cases e; exact h1
  | 2, e => cases e; exact h2
  | 3, e => cases e; exact h3
  | 4, e => cases e; exact h4
  | 5, e => cases e; exact h5
  | 6, e => cases e; exact h6
  | 7, e => cases e; exact h7
  | 8, e => cases e; exact h8
  | 9, e => cases e; exact h9
  | 10, e => cases e; exact h10
  | 11, e => cases e; exact h11
  | 12, e => cases e; exact h12
  | 13, e => cases e; exact h13
  | 14, e => cases e; exact h14
  | 15, e => cases e; exact h15
  | 16, e => cases e; exact h16
  | 17, e => cases e; exact h17
  | 18, e => cases e; exact h18
  | 19, e => cases e; exact h19
  | 20, e => cases e; exact h20
  | q + 21, e => simp at e
def GR (K : PySem.W.Frag) : Prop := ∃ (d b1 b6 b13 b15 : Addr) (t1 t6 t13 t15 : Tok) (n : Nat), PySem.W.nsIn K mainGlobals "ROWS" = some (some (.ref d)) ∧ (d == sysModules) = false ∧
    K.lookup d = some ⟨.type "dict", none, .dict #[⟨1, .int 1 t1, .ref b1⟩, ⟨6, .int 6 t6, .ref b6⟩, ⟨13, .int 13 t13, .ref b13⟩, ⟨15, .int 15 t15, .ref b15⟩] n, #[]⟩ ∧ P3 K b1 8 0 1000000000 ∧ P3 K b6 8 0 1000000000 ∧ P3 K b13 8 1 8 ∧ P3 K b15 64 0 1000000000
theorem gr_of {d b1 b6 b13 b15 : Addr} {t1 t6 t13 t15 : Tok} {n : Nat} (g : PySem.W.nsIn K mainGlobals "ROWS" = some (some (.ref d)))
    (l : K.lookup d = some ⟨.type "dict", none, .dict #[⟨1, .int 1 t1, .ref b1⟩, ⟨6, .int 6 t6, .ref b6⟩, ⟨13, .int 13 t13, .ref b13⟩, ⟨15, .int 15 t15, .ref b15⟩] n, #[]⟩) (s : (d == sysModules) = false)
    (k1 : P3 K b1 8 0 1000000000) (k6 : P3 K b6 8 0 1000000000) (k13 : P3 K b13 8 1 8) (k15 : P3 K b15 64 0 1000000000) : GR K := ⟨d, b1, b6, b13, b15, t1, t6, t13, t15, n, g, s, l, k1, k6, k13, k15⟩
structure Fns (K : PySem.W.Frag) : Prop where
  setSums : GF K "set_sums" sSetSums
  rounded : GF K "rounded_up" sRounded
  holds : GF K "holds" sHolds
  forcedBy : GF K "forced_by" sForcedBy
  nextLevel : GF K "next_level" sNextLevel
  nextDone : GF K "next_done" sNextDone
  canHold : GF K "can_hold" sCanHold
  putLevel : GF K "put_level" sPutLevel
  forcedSums : GF K "forced_sums" sForcedSums
  least : GF K "least_sums" sLeast
  totals : GF K "plan_totals" sTotals
  amounts : GF K "plan_amounts" sAmounts
  free : GF K "free_sums" sFree
  shares : GF K "plan_shares" sShares
  peak : GF K "plan_peak" sPeak
  top : GF K "top_sum" sTop
  sqOf : GF K "squares_of" sSqOf
  square : GF K "square_sum" sSquare
  fits : GF K "fits_limit" sFits
  state : GF K "house_state" sState
  info : GF K "load_info" sInfo
  grow : GF K "are_growing" sGrow
  mean : GF K "forced_and_mean" sMean
  peaks : GF K "peak_periods" sPeaks
  slack : GF K "slack_between" sSlack
  could : GF K "greatest_need" sCould
  sched : GF K "is_schedule" sSched
  check : GF K "schedule_check" sCheck
  numIn : GF K "numbers_within" sNumIn
  rowIn : GF K "row_within" sRowIn
  read : GF K "read_call" sRead
  callIn : GF K "call_within" sCallIn
  show_ : GF K "show" sShow
  change : GF K "change" sChange
  ask : GF K "ask" sAsk
  answer : GF K "answer" sAnswer
  answers : GF K "answers" sAnswers
structure HMs (K : PySem.W.Frag) (C : Addr) : Prop where
  init : GM K C "__init__" "House.__init__" sHInit
  begin_ : GM K C "begin" "House.begin" sBegin
  load : GM K C "add_load" "House.add_load" sAddLoad
  need : GM K C "change_need" "House.change_need" sChNeed
  room : GM K C "change_room" "House.change_room" sChRoom
  base_ : GM K C "change_base" "House.change_base" sChBase
  add : GM K C "add_period" "House.add_period" sAddPer
  pass : GM K C "pass_on" "House.pass_on" sPass
  canGet : GM K C "can_get" "House.can_get" sCanGet
structure Nos (K : PySem.W.Frag) : Prop where
  zip : PySem.W.nsIn K mainGlobals "zip" = some none
  range : PySem.W.nsIn K mainGlobals "range" = some none
  len : PySem.W.nsIn K mainGlobals "len" = some none
  max : PySem.W.nsIn K mainGlobals "max" = some none
  min : PySem.W.nsIn K mainGlobals "min" = some none
  sum : PySem.W.nsIn K mainGlobals "sum" = some none
  sorted : PySem.W.nsIn K mainGlobals "sorted" = some none
  enumerate : PySem.W.nsIn K mainGlobals "enumerate" = some none
  list : PySem.W.nsIn K mainGlobals "list" = some none
theorem Nos.bi {h : Heap} (n : Nos K) (X : K.In h) (G : h.Ns mainGlobals mg) : Bi mg :=
  ⟨PySem.W.mg_none_of X G n.zip, PySem.W.mg_none_of X G n.range, PySem.W.mg_none_of X G n.len, PySem.W.mg_none_of X G n.max, PySem.W.mg_none_of X G n.min, PySem.W.mg_none_of X G n.sum, PySem.W.mg_none_of X G n.sorted, PySem.W.mg_none_of X G n.enumerate, PySem.W.mg_none_of X G n.list⟩
structure NoH (K : PySem.W.Frag) (C : Addr) : Prop where
  begun : PySem.W.findIn K (.ref C) "begun" = some none
  bases : PySem.W.findIn K (.ref C) "bases" = some none
  needs : PySem.W.findIn K (.ref C) "needs" = some none
  rooms : PySem.W.findIn K (.ref C) "rooms" = some none
  passed : PySem.W.findIn K (.ref C) "passed" = some none
structure NoC (K : PySem.W.Frag) (C : Addr) : Prop where
  number : PySem.W.findIn K (.ref C) "number" = some none
  numbers : PySem.W.findIn K (.ref C) "numbers" = some none
  row : PySem.W.findIn K (.ref C) "row" = some none
  end_ : PySem.W.findIn K (.ref C) "end" = some none
theorem all_mk {h : Heap} {fa C CC : Addr} {t : Tok} (X : K.In h) (G : h.Ns mainGlobals mg) (hfa : mg "answers" = some (.ref fa)) (aC : PySem.W.nsIn K mainGlobals "House" = some (some (.ref C))) (aCC : PySem.W.nsIn K mainGlobals "Call" = some (some (.ref CC)))
    (aG : PySem.W.nsIn K mainGlobals "GREATEST_AMOUNT" = some (some (.int 1000000000 t))) (fs : Fns K) (ms : HMs K C) (ci : GM K CC "__init__" "Call.__init__" sCallInit) (gc : GC K C) (gcc : GC K CC) (nh : NoH K C) (nc : NoC K CC) (no : Nos K) (gn : GN K) (gr : GR K) :
    ∃ fd : FuncData, (∀ (s : Shared) (us : List Value), us.length = (["calls"] : List Str).length → BindsTo s fd ⟨us, []⟩ ((["calls"] : List Str).zip us)) ∧ ∀ base : Heap, K.In base → base.Ns mainGlobals mg → FnOk P w K mg base CX0 11 fa fd ["calls"] (spAnswers K) := by
  have B : Bi mg := no.bi X G
  have T : HC K C := ⟨gc.cl, nh.begun, nh.bases, nh.needs, nh.rooms, nh.passed⟩
  have TC : CCl K CC := ⟨gcc.cl, nc.number, nc.numbers, nc.row, nc.end_⟩
  have hG : ∃ t, mg "GREATEST_AMOUNT" = some (.int 1000000000 t) := ⟨t, PySem.W.mg_of X G aG⟩
  have NT : NumT K mg := by
    obtain ⟨tn, as, h1, h2, h3, h4⟩ := gn
    exact ⟨⟨tn, as, PySem.W.mg_of X G h1, h2, h3, h4⟩⟩
  have RT : RowT K mg := by
    obtain ⟨d, b1, b6, b13, b15, t1, t6, t13, t15, n, h1, h2, h3, k1, k6, k13, k15⟩ := gr
    exact ⟨⟨d, b1, b6, b13, b15, t1, t6, t13, t15, n, PySem.W.mg_of X G h1, h2, h3, k1, k6, k13, k15⟩⟩
  obtain ⟨f, fd, a, F⟩ := fs.answers
  have e := hfa.symm.trans (PySem.W.mg_of X G a)
  cases e
  have hb := F.binds (ps := ["calls"]) fun _ _ _ _ _ _ => us1 fun _ => rfl
  refine ⟨fd, fun s us hu => ?_, fun base _ _ => ?_⟩
  · obtain ⟨oc, od, kV, doc, pm, an, cdv, ct, osl, rfl, lk, hcd⟩ := F.ex
    match us, hu with
    | [_], _ => exact .of_eq rfl
  · have cSet : Cal P w K mg base 1 "set_sums" ["values"] spSetSums := fs.setSums.cal X G (fun _ _ _ _ _ _ => us1 fun _ => rfl) fun f fd F => ok_setSums F
    have cRnd : Cal P w K mg base 1 "rounded_up" ["amount", "parts"] spRounded := fs.rounded.cal X G (fun _ _ _ _ _ _ => us2 fun _ _ => rfl) fun f fd F => ok_rounded F
    have cHol : Cal P w K mg base 1 "holds" ["part", "period"] spHolds := fs.holds.cal X G (fun _ _ _ _ _ _ => us2 fun _ _ => rfl) fun f fd F => ok_holds F
    have cFby : Cal P w K mg base 2 "forced_by" ["need", "rooms"] spForcedBy := fs.forcedBy.cal X G (fun _ _ _ _ _ _ => us2 fun _ _ => rfl) fun f fd F => ok_forcedBy F B cSet
    have cLev : Cal P w K mg base 2 "next_level" ["least", "sizes", "done"] spNextLevel := fs.nextLevel.cal X G (fun _ _ _ _ _ _ => us3 fun _ _ _ => rfl) fun f fd F => ok_nextLevel F B cRnd
    have cDon : Cal P w K mg base 1 "next_done" ["least", "sizes", "done", "level"] spNextDone := fs.nextDone.cal X G (fun _ _ _ _ _ _ => us4 fun _ _ _ _ => rfl) fun f fd F => ok_nextDone F B
    have cCan : Cal P w K mg base 2 "can_hold" ["totals", "least", "found"] spCanHold := fs.canHold.cal X G (fun _ _ _ _ _ _ => us3 fun _ _ _ => rfl) fun f fd F => ok_canHold F B cSet
    have cPut : Cal P w K mg base 3 "put_level" ["totals", "least", "done", "found", "level"] spPutLevel := fs.putLevel.cal X G (fun _ _ _ _ _ _ => us5 fun _ _ _ _ _ => rfl) fun f fd F => ok_putLevel F B cHol cCan
    have cFor : Cal P w K mg base 3 "forced_sums" ["house"] (spList C gForced) := fs.forcedSums.cal X G (fun _ _ _ _ _ _ => us1 fun _ => rfl) fun f fd F => ok_forcedSums F B T cSet cFby
    have cLea : Cal P w K mg base 4 "least_sums" ["house"] (spList C gLeast) := fs.least.cal X G (fun _ _ _ _ _ _ => us1 fun _ => rfl) fun f fd F => ok_least F B T cSet cFor
    have cTot : Cal P w K mg base 5 "plan_totals" ["house"] (spList C gTotals) := fs.totals.cal X G (fun _ _ _ _ _ _ => us1 fun _ => rfl) fun f fd F => ok_totals F B T cSet cLea cLev cDon cPut
    have cAmo : Cal P w K mg base 6 "plan_amounts" ["house"] (spList C gAmounts) := fs.amounts.cal X G (fun _ _ _ _ _ _ => us1 fun _ => rfl) fun f fd F => ok_amounts F B T cTot
    have cFre : Cal P w K mg base 7 "free_sums" ["house"] (spList C gFree) := fs.free.cal X G (fun _ _ _ _ _ _ => us1 fun _ => rfl) fun f fd F => ok_free F B T cSet cAmo cFor
    have cSha : Cal P w K mg base 8 "plan_shares" ["house"] (spList C gShares) := fs.shares.cal X G (fun _ _ _ _ _ _ => us1 fun _ => rfl) fun f fd F => ok_shares F B T cFre cFby cHol
    have cPea : Cal P w K mg base 6 "plan_peak" ["house"] (spPeak C) := fs.peak.cal X G (fun _ _ _ _ _ _ => us1 fun _ => rfl) fun f fd F => ok_peak F B cTot
    have cTop : Cal P w K mg base 6 "top_sum" ["house", "many"] (spQ1 C (fun _ k => 0 ≤ k) gTop) := fs.top.cal X G (fun _ _ _ _ _ _ => us2 fun _ _ => rfl) fun f fd F => ok_top F B cTot
    have cSqo : Cal P w K mg base 1 "squares_of" ["totals"] spSqOf := fs.sqOf.cal X G (fun _ _ _ _ _ _ => us1 fun _ => rfl) fun f fd F => ok_sqOf F B
    have cSqu : Cal P w K mg base 6 "square_sum" ["house"] (spList C gSquare) := fs.square.cal X G (fun _ _ _ _ _ _ => us1 fun _ => rfl) fun f fd F => ok_square F cSqo cTot
    have cFit : Cal P w K mg base 7 "fits_limit" ["house", "limit"] (spQ1 C (fun _ _ => True) gFits) := fs.fits.cal X G (fun _ _ _ _ _ _ => us2 fun _ _ => rfl) fun f fd F => ok_fits F cPea
    have cSta : Cal P w K mg base 1 "house_state" ["house"] (spList C gState) := fs.state.cal X G (fun _ _ _ _ _ _ => us1 fun _ => rfl) fun f fd F => ok_state F B T
    have cInf : Cal P w K mg base 1 "load_info" ["house", "load"] (spQ1 C (fun _ c => 1 ≤ c) gInfo) := fs.info.cal X G (fun _ _ _ _ _ _ => us2 fun _ _ => rfl) fun f fd F => ok_info F B T
    have cGro : Cal P w K mg base 1 "are_growing" ["periods", "last"] spGrow := fs.grow.cal X G (fun _ _ _ _ _ _ => us2 fun _ _ => rfl) fun f fd F => ok_grow F B
    have cMea : Cal P w K mg base 5 "forced_and_mean" ["house", "periods"] (spQL C (fun _ l => l.length ≤ 8) gMean) := fs.mean.cal X G (fun _ _ _ _ _ _ => us2 fun _ _ => rfl) fun f fd F => ok_mean F B T cGro cFor cLea cRnd
    have cPks : Cal P w K mg base 7 "peak_periods" ["house"] (spList C gBecause) := fs.peaks.cal X G (fun _ _ _ _ _ _ => us1 fun _ => rfl) fun f fd F => ok_peaks F B T cPea cLea cSet cRnd cHol
    have cSla : Cal P w K mg base 8 "slack_between" ["house", "source", "to"] (spQ2 C (fun _ s t => 1 ≤ s ∧ 1 ≤ t) gSlack) := fs.slack.cal X G (fun _ _ _ _ _ _ => us3 fun _ _ _ => rfl) fun f fd F => ok_slack F B T cFre cHol
    have cCou : Cal P w K mg base 7 "greatest_need" ["house", "load"] (spQ1 C (fun _ c => 1 ≤ c) gCould) := fs.could.cal X G (fun _ _ _ _ _ _ => us2 fun _ _ => rfl) fun f fd F => ok_could F B T hG cPea cLea cSet cFby
    have cSch : Cal P w K mg base 1 "is_schedule" ["house", "ways"] (spSched C) := fs.sched.cal X G (fun _ _ _ _ _ _ => us2 fun _ _ => rfl) fun f fd F => ok_sched F B T
    have cChk : Cal P w K mg base 2 "schedule_check" ["house", "amounts"] (spQL C (fun _ l => ∀ x ∈ l, 0 ≤ x ∧ x ≤ 1000000000) gCheck) := fs.check.cal X G (fun _ _ _ _ _ _ => us2 fun _ _ => rfl) fun f fd F => ok_check F B T cSch cSqo
    have cNin : Cal P w K mg base 1 "numbers_within" ["numbers", "ranges"] (spNumIn K) := fs.numIn.cal X G (fun _ _ _ _ _ _ => us2 fun _ _ => rfl) fun f fd F => ok_numIn F B
    have cRin : Cal P w K mg base 1 "row_within" ["row", "most", "low", "high"] spRowIn := fs.rowIn.cal X G (fun _ _ _ _ _ _ => us4 fun _ _ _ _ => rfl) fun f fd F => ok_rowIn F B
    have mCal : Mkr P w K mg base 1 "Call" CC ["self", "number", "numbers", "row", "end"] (spCallInit CC) := gcc.make aCC ci X G (fun _ _ _ _ _ _ => us5 fun _ _ _ _ _ => rfl) fun f fd F => ok_callInit F TC
    have mHou : Mkr P w K mg base 1 "House" C ["self"] (spHInit C) := gc.make aC ms.init X G (fun _ _ _ _ _ _ => us1 fun _ => rfl) fun f fd F => ok_hInit F T
    have cRea : Cal P w K mg base 3 "read_call" ["calls", "start"] (spRead K CC) := fs.read.cal X G (fun _ _ _ _ _ _ => us2 fun _ _ => rfl) fun f fd F => ok_read F B NT RT mCal
    have cCin : Cal P w K mg base 2 "call_within" ["call"] (spCallIn CC) := fs.callIn.cal X G (fun _ _ _ _ _ _ => us1 fun _ => rfl) fun f fd F => ok_callIn F TC NT RT cNin cRin
    have mGet : Met P w K mg base C 1 "can_get" ["self", "gets"] (spCanGet C) := ms.canGet.met (fun _ _ _ _ _ _ => us2 fun _ _ => rfl) fun f fd F => ok_canGet F B T
    have hms : HMeths P w K mg base C :=
      { begin_ := ms.begin_.met (fun _ _ _ _ _ _ => us2 fun _ _ => rfl) fun f fd F => ok_begin F T
        load := ms.load.met (fun _ _ _ _ _ _ => us3 fun _ _ _ => rfl) fun f fd F => ok_addLoad F B T
        need := ms.need.met (fun _ _ _ _ _ _ => us3 fun _ _ _ => rfl) fun f fd F => ok_chNeed F B T
        room := ms.room.met (fun _ _ _ _ _ _ => us4 fun _ _ _ _ => rfl) fun f fd F => ok_chRoom F B T
        base_ := ms.base_.met (fun _ _ _ _ _ _ => us3 fun _ _ _ => rfl) fun f fd F => ok_chBase F B T
        add := ms.add.met (fun _ _ _ _ _ _ => us1 fun _ => rfl) fun f fd F => ok_addPer F B T
        pass := ms.pass.met (fun _ _ _ _ _ _ => us2 fun _ _ => rfl) fun f fd F => ok_pass F B T mGet }
    have cCha : Cal P w K mg base 3 "change" ["house", "number", "numbers", "row"] (spChange C) := fs.change.cal X G (fun _ _ _ _ _ _ => us4 fun _ _ _ _ => rfl) fun f fd F => ok_change F T hms
    have cSho : Cal P w K mg base 9 "show" ["house", "number"] (spShow C) := fs.show_.cal X G (fun _ _ _ _ _ _ => us2 fun _ _ => rfl) fun f fd F => ok_show F cTot cAmo cSha cPea
    have has : HAsks P w K mg base C := ⟨cTop, cSqu, cMea, cPks, cChk, cSla, cFit, cCou, cInf, cSta⟩
    have cAsk : Cal P w K mg base 9 "ask" ["house", "number", "numbers", "row"] (spAsk C) := fs.ask.cal X G (fun _ _ _ _ _ _ => us4 fun _ _ _ _ => rfl) fun f fd F => ok_ask F has
    have cAns : Cal P w K mg base 10 "answer" ["house", "call"] (spAnswer C CC) := fs.answer.cal X G (fun _ _ _ _ _ _ => us2 fun _ _ => rfl) fun f fd F => ok_answer F T TC cCin cCha cSho cAsk
    exact ok_answers F B T TC mHou cRea cAns good_h0 good_answer len_answer
theorem spAnswers_of {H : Hp} {a : Addr} {ns : List Int} {Q : VK} {E : XK} (hO : OnlyF H) (hs : SqL K H a (ns.map V.int)) (hl : ns.length ≤ 16000) (ha : PyVbemat.answers_asked ns = true)
    (k : ∀ (H' : Hp) (p : Addr), H' p = some (.lst ((PyVbemat.answers ns).map V.int)) → Q (.ref p) H') : spAnswers K [.ref a] H Q E := by
  unfold PyVbemat.answers_asked PyVbemat.calls at ha
  cases e : PyFlat.calls PyVbemat.shape ns.length ns with
  | none => simp only [e] at ha; cases ha
  | some all =>
    refine ⟨a, ns, all, rfl, ?_, hl, e, fun H' p hp => k H' p ?_⟩
    · rcases hs with (h | h) | h
      · rcases hO a with z | ⟨o, u, z⟩
        · rw [z] at h; cases h
        · rw [z] at h; cases h
      · exact .inl h
      · exact .inr h
    · rw [due_eq e]; exact hp
end
end Hs
end
section
open PySem PySem.W PyProof.Rows PySem.Challenge
set_option Elab.async false
set_option maxRecDepth 100000 in
set_option maxHeartbeats 0 in
theorem PySem.Challenge.cw_levelloads_s01_answers_holds : PySem.Challenge.rw_levelloads_s01_answers.Holds := by
  w_on
  refine holds_os (q := Hs.vw) (loose := ["ROWS"]) (Xt := Hs.sq) (XP := XL Hs.vw []) (Yf := Hook.obs Hs.hk) (Ya := Hook.val Hs.hk) (YP := Hook.says (kHook Hs.KK Hs.KKs Hs.KKs_ok)) (N := 4248) Hs.left (Hook.of Hs.hk) (Hook.keeps Hs.hk) (fun s e => xl_of s (Bool.and_eq_true_iff.mp e).1) XL.keeps (by rfl) (by rfl) (by rfl) (fun s e => recFacts_of (Bool.and_eq_true_iff.mp e).2) os_shapes (by decide +kernel) (by decide +kernel) ⟨rfl, rfl, rfl, rfl, rfl, by decide +kernel⟩ ⟨[.list [.int 20]], by decide +kernel, by decide +kernel⟩ ?_
  k_fillS
  refine L2.walk_specK (r := PySem.Challenge.rw_levelloads_s01_answers) (k := 11) (CX := L2.CX0) (ps := ["calls"]) (sp := Hs.spAnswers) (by decide +kernel) rfl rfl ⟨rfl, by decide, by decide⟩ (fun w h Y => PySem.W.kIn_of Y) ?F ?S (fun _ _ _ _ z => z)
  case F =>
    intro w mg fa h Y KX G hmg
    refine' Hs.all_mk KX G hmg ?aC ?aCC ?aG ?fs ?ms ?ci ?gc ?gcc ?nh ?nc ?no ?gn ?gr
    (case aC => k_is); (case aCC => k_is); (case aG => k_is)
    (case fs => constructor <;> (refine' Hs.gf_of ?a ?l ?c ?k; (case a => k_is); (case l => k_is); (case c => k_is); (case k => k_is)))
    (case ms => constructor <;> (refine' Hs.gm_of ?a ?i ?l ?c ?k; (case a => k_is); (case i => k_is); (case l => k_is); (case c => k_is); (case k => k_is)))
    (case ci => refine' Hs.gm_of ?a ?i ?l ?c ?k; (case a => k_is); (case i => k_is); (case l => k_is); (case c => k_is); (case k => k_is))
    (case gc => refine' Hs.gc_of ?a ?i ?l ?c ?k ?m; (case a => k_is); (case i => k_is); (case l => k_is); (case c => k_is); (case k => k_is); (case m => k_is))
    (case gcc => refine' Hs.gc_of ?a ?i ?l ?c ?k ?m; (case a => k_is); (case i => k_is); (case l => k_is); (case c => k_is); (case k => k_is); (case m => k_is))
    (case nh => constructor <;> k_is)
    (case nc => constructor <;> k_is)
    (case no => constructor <;> k_is)
    case gn =>
      refine' Hs.gn_of ?g ?l ?h0 ?h1 ?h2 ?h3 ?h4 ?h5 ?h6 ?h7 ?h8 ?h9 ?h10 ?h11 ?h12 ?h13 ?h14 ?h15 ?h16 ?h17 ?h18 ?h19 ?h20
      (case g => k_is); (case l => k_is)
      all_goals first
        | (refine' Hs.rg0 (Hs.p0_of ?x); (case x => k_is))
        | (refine' Hs.rg1 ?x (Hs.p1_of ?y); (case x => k_is); (case y => k_is))
        | (refine' Hs.rg2 ?x (Hs.p1_of ?y) (Hs.p1_of ?z); (case x => k_is); (case y => k_is); (case z => k_is))
        | (refine' Hs.rg3 ?x (Hs.p1_of ?y) (Hs.p1_of ?z) (Hs.p1_of ?u); (case x => k_is); (case y => k_is); (case z => k_is); (case u => k_is))
    case gr =>
      refine' Hs.gr_of ?g ?l ?s (Hs.p3_of ?x) (Hs.p3_of ?y) (Hs.p3_of ?z) (Hs.p3_of ?u)
      (case g => k_is); (case l => k_is); (case s => rfl); (case x => k_is); (case y => k_is); (case z => k_is); (case u => k_is)
  case S =>
    intro K H xs a hO hwi hask hx
    cases hx with
    | cons h1 h2 =>
      cases h2
      cases h1 with
      | lst hs ha =>
        have e := L2.ints_dw a.1 _ ha
        subst e
        have q : (Codec.inLen 0 16000 a.1 && a.1.all (Codec.inInt (Int.negSucc 999999999999999999) (Int.ofNat 1000000000000000000)) && true) = true := hwi
        rw [Bool.and_eq_true, Bool.and_eq_true] at q
        exact Hs.spAnswers_of hO hs (Codec.inNat_iff.mp q.1.1).2 hask fun H' p hp => .lst (L2.SqL.of hp) (L2.dw_ints _)
end
