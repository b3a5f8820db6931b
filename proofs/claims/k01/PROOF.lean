import PyProof.Rows.All
import Wide.All
import OpenK.AllK
import Wide.FinOn
import PySem.Challenge.RW_jostle_k01_exchanged
import Lean
import PyProof.EqAt
import PyProof.EqKinds
import PyProof.TupleCall
import PyProof.NeKinds
import PyProof.SetKind
import PyProof.SetNew
import PyProof.TupleKey
import PyProof.DictKinds
import PyProof.Rows.SetFrom
import PyProof.DictIter
import KE.KSortTup
import KE.KDictList
import KE.KTryMore
set_option Elab.async false
set_option linter.all false
set_option maxRecDepth 100000
set_option maxHeartbeats 4000000
set_option Elab.async false
set_option linter.all false
set_option maxRecDepth 100000
namespace L2
open PySem PySem.Spec PyProof.Rows
abbrev Key := Sum Int Str
def keyIs : Key → Value → Bool
  | .inl k, v => Value.isInt k v
  | .inr x, v => Value.isStrOf x v
def keyH (w : World) : Key → Int
  | .inl k => hashInt k
  | .inr x => hashStr w x
theorem keyIs_shape : ∀ {k : Key} {v : Value}, keyIs k v = true → (∃ i t, k = Sum.inl i ∧ v = Value.int i t) ∨ (∃ x t, k = Sum.inr x ∧ v = Value.str x t)
  | .inl i, v, h => by
    obtain ⟨t, e⟩ := Value.isInt_shape (k := i) (v := v) h
    exact .inl ⟨i, t, rfl, e⟩
  | .inr x, v, h => by
    obtain ⟨t, e⟩ := Value.isStrOf_shape (x := x) (v := v) h
    exact .inr ⟨x, t, rfl, e⟩
theorem keyIs_int (i : Int) (t : Tok) : keyIs (.inl i) (.int i t) = true := by simp [keyIs, Value.isInt]
theorem keyIs_str (x : Str) (t : Tok) : keyIs (.inr x) (.str x t) = true := by simp [keyIs, Value.isStrOf]
theorem key_ll (a b : Int) : decide ((Sum.inl a : Key) = Sum.inl b) = (a == b) := by
  by_cases e : a = b
  · subst e; simp
  · have h : ¬ (Sum.inl a : Key) = Sum.inl b := fun q => e (Sum.inl.inj q)
    rw [decide_eq_false h]
    exact (beq_eq_false_iff_ne.mpr e).symm
theorem key_rr (a b : Str) : decide ((Sum.inr a : Key) = Sum.inr b) = decide (a = b) := by
  by_cases e : a = b
  · subst e; simp
  · have h : ¬ (Sum.inr a : Key) = Sum.inr b := fun q => e (Sum.inr.inj q)
    rw [decide_eq_false h, decide_eq_false e]
theorem key_lr (a : Int) (b : Str) : decide ((Sum.inl a : Key) = Sum.inr b) = false := decide_eq_false (fun q => nomatch q)
theorem key_rl (a : Str) (b : Int) : decide ((Sum.inr a : Key) = Sum.inl b) = false := decide_eq_false (fun q => nomatch q)
def mixKind (prog : Program) (w : World) : PySem.KeyKind prog w Key where
  is := keyIs
  hash := keyH w
  inj := fun v a b ha hb => by
    rcases keyIs_shape ha with ⟨i, t, rfl, rfl⟩ | ⟨x, t, rfl, rfl⟩
    · rcases keyIs_shape hb with ⟨j, u, rfl, e⟩ | ⟨y, u, rfl, e⟩
      · injection e with e1 _; rw [e1]
      · exact nomatch e
    · rcases keyIs_shape hb with ⟨j, u, rfl, e⟩ | ⟨y, u, rfl, e⟩
      · exact nomatch e
      · injection e with e1 _; rw [e1]
  byValue := fun k v h => by
    rcases keyIs_shape h with ⟨i, t, rfl, rfl⟩ | ⟨x, t, rfl, rfl⟩ <;> rfl
  pyHash := fun hv h => by
    rcases keyIs_shape hv with ⟨i, t, rfl, rfl⟩ | ⟨x, t, rfl, rfl⟩
    · exact wpAny_pyHash_int h
    · exact wpAny_pyHash_str h
  eqBool := fun hu hv h => by
    rcases keyIs_shape hu with ⟨i, t, rfl, rfl⟩ | ⟨x, t, rfl, rfl⟩
    · rcases keyIs_shape hv with ⟨j, u, rfl, rfl⟩ | ⟨y, u, rfl, rfl⟩
      · rw [key_ll] at h; exact wpAny_eqBool_int h
      · rw [key_lr] at h; exact SeqAt.EqAt.int_str i t y u _ _ _ _ h
    · rcases keyIs_shape hv with ⟨j, u, rfl, rfl⟩ | ⟨y, u, rfl, rfl⟩
      · rw [key_rl] at h; exact SeqAt.EqAt.str_int x t j u _ _ _ _ h
      · rw [key_rr] at h; exact wpAny_eqBool_str h
  «strs» := fun k x t v h => by
    rcases keyIs_shape h with ⟨i, u, rfl, e⟩ | ⟨y, u, rfl, e⟩
    · exact nomatch e
    · injection e with e1 _
      subst e1
      cases v <;> rfl
theorem mixKind_int (prog : Program) (w : World) (i : Int) (t : Tok) : (mixKind prog w).is (.inl i) (.int i t) = true := keyIs_int i t
theorem mixKind_str (prog : Program) (w : World) (x : Str) (t : Tok) : (mixKind prog w).is (.inr x) (.str x t) = true := keyIs_str x t
end L2
namespace L2
open PySem PySem.Spec PyProof.Rows
inductive V where
  | non | bl (b : Bool) | int (i : Int) | str (x : Str) | byt (b : Array UInt8) | flt (b : UInt64) | ref (a : Addr) | ty (n : String)
  deriving DecidableEq
def RelV : V → Value → Prop
  | .non, u => u = Value.none
  | .bl b, u => u = Value.bool b
  | .int i, u => ∃ t, u = Value.int i t
  | .str x, u => ∃ t, u = Value.str x t
  | .byt b, u => ∃ t, u = Value.bytes b t
  | .flt b, u => ∃ t, u = Value.float b t
  | .ref a, u => u = Value.ref a
  | .ty n, u => u = Value.type n
abbrev Vals : List V → List Value → Prop := Paired RelV
theorem Vals.length {xs : List V} {us : List Value} (r : Vals xs us) : xs.length = us.length := Paired.length r
theorem Vals.get : ∀ {xs : List V} {us : List Value} {i : Nat} {x : V}, Vals xs us → xs[i]? = some x → ∃ u, us[i]? = some u ∧ RelV x u
  | _, _, _, _, .nil, e => by simp at e
  | _, _, 0, _, .cons r _, e => by simp at e; subst e; exact ⟨_, rfl, r⟩
  | _, _, i + 1, x, .cons _ t, e => by
    obtain ⟨u, h1, h2⟩ := Vals.get (i := i) (x := x) t (by simpa using e)
    exact ⟨u, by simpa using h1, h2⟩
theorem Vals.set {x : V} {u : Value} (r : RelV x u) : ∀ {xs : List V} {us : List Value} (i : Nat), Vals xs us → Vals (xs.set i x) (us.set i u)
  | _, _, _, .nil => .nil
  | _, _, 0, .cons _ t => .cons r t
  | _, _, i + 1, .cons q t => .cons q (Vals.set r i t)
theorem Vals.append : ∀ {xs ys : List V} {us ws : List Value}, Vals xs us → Vals ys ws → Vals (xs ++ ys) (us ++ ws)
  | _, _, _, _, .nil, s => s
  | _, _, _, _, .cons r t, s => .cons r (Vals.append t s)
theorem Vals.take : ∀ {xs : List V} {us : List Value} (n : Nat), Vals xs us → Vals (xs.take n) (us.take n)
  | _, _, 0, _ => .nil
  | _, _, _ + 1, .nil => .nil
  | _, _, n + 1, .cons r t => .cons r (Vals.take n t)
theorem Vals.drop : ∀ {xs : List V} {us : List Value} (n : Nat), Vals xs us → Vals (xs.drop n) (us.drop n)
  | _, _, 0, r => r
  | _, _, _ + 1, .nil => .nil
  | _, _, n + 1, .cons _ t => Vals.drop n t
theorem Vals.none_of : ∀ {xs : List V} {us : List Value} {i : Nat}, Vals xs us → xs[i]? = none → us[i]? = none := fun {xs us i} r e => by
  have h1 := r.length
  have h2 : xs.length ≤ i := List.getElem?_eq_none_iff.mp e
  exact List.getElem?_eq_none_iff.mpr (by omega)
def RelO : Option V → Option Value → Prop
  | some v, some u => RelV v u
  | none, none => True
  | _, _ => False
def KV {κ : Type} : List (κ × V) → List (κ × Value) → Prop := Paired fun (p : κ × V) (q : κ × Value) => p.1 = q.1 ∧ RelV p.2 q.2
def kV : Key → V
  | .inl i => .int i
  | .inr x => .str x
inductive HO where
  /-- a list -/
  | lst (xs : List V)
  /-- a tuple (never changes) -/
  | tup (xs : List V)
  /-- a dict whose keys are ints and texts; one whose keys are tuples of ints and texts (the empty one is both) -/
  | dK (kvs : List (Key × V)) | dT (kvs : List (List Key × V))
  /-- a set of ints: its members, its size -/
  | set (S : Int → Bool) (n : Nat)
  /-- an instance of the class at C, its dict at dx, its attributes -/
  | ins (C dx : Addr) (fs : List (Str × V))
  /-- the dict of the instance at x -/
  | own (x : Addr)
  /-- the dict of an exception -/
  | xd (fs : List (Str × V))
  /-- a bound method, f of x -/
  | met (f x : Addr)
  /-- a range object lo, lo + 1, .. below hi -/
  | rng (lo hi : Int)
  /-- a thing that is known to the object (the script; a dict while a loop walks it): read, never written while it is so -/
  | frz (o : Obj) (u : HO)
  /-- a code object's table -/
  | tbl (ps : Array Value)
  /-- any other thing, by what is true of its one object (a def of one's own: SetO a S n := HO.ext fun h => ..) -/
  | ext (φ : Heap → Prop)
abbrev Hp := Addr → Option HO
def upd (H : Hp) (a : Addr) (o : HO) : Hp := fun b => if b = a then some o else H b
theorem upd_same {H : Hp} {a : Addr} {o : HO} : upd H a o a = some o := by unfold upd; rw [if_pos rfl]
theorem upd_ne {H : Hp} {a b : Addr} {o : HO} (h : b ≠ a) : upd H a o b = H b := by unfold upd; rw [if_neg h]
theorem ne_of {H : Hp} {a b : Addr} {o u : HO} (h : H a = some o) (h' : H b = some u) (d : o ≠ u) : a ≠ b := by
  intro e; subst e; rw [h] at h'; exact d (Option.some.inj h')
theorem ne_of_none {H : Hp} {a b : Addr} {o : HO} (h : H a = some o) (h' : H b = none) : a ≠ b := by
  intro e; subst e; rw [h] at h'; cases h'
section
variable (P : Program) (w : World)
def ObjOk (H : Hp) (h : Heap) (a : Addr) : HO → Prop
  | .lst xs => xs.length ≤ sizeLine ∧ ∃ (its : List Value) (n : Nat), Vals xs its ∧ h.get? a = some { cls := .type "list", data := .seq its.toArray n }
  | .tup xs => xs.length ≤ sizeLine ∧ ∃ its : List Value, Vals xs its ∧ IsTup h a its.toArray
  | .dK kvs => kvs.length ≤ sizeLine ∧ (a == sysModules) = false ∧ ∃ vs, KV kvs vs ∧ h.DictOf (mixKind P w) a vs
  | .dT kvs => kvs.length ≤ sizeLine ∧ (a == sysModules) = false ∧ ∃ xs : List (List Key × Addr × Value),
      Paired (fun (p : List Key × V) (q : List Key × Addr × Value) => p.1 = q.1 ∧ H q.2.1 = some (.tup (p.1.map kV)) ∧ RelV p.2 q.2.2) kvs xs ∧
      ∃ o es ep, h.get? a = some o ∧ o.ExactDict ∧ o.data = .dict es ep ∧ es.toList = xs.map (entryOfKey (tupleKind (mixKind P w))) ∧ (xs.map (·.1)).Nodup
  | .set S n => h.SetOf (intKind P w) a S n
  | .ins C dx fs => H dx = some (.own a) ∧ fs.length ≤ 1000 ∧ dx ≠ a ∧ h.get? a = some (PySem.W.instObj C dx) ∧
      ∃ mA, h.Ns1 dx mA ∧ (∀ f, RelO (fs.lookup f) (mA f)) ∧ PySem.Within mA (fs.map (·.1))
  | .own _ => ∃ o, h.get? a = some o
  | .xd fs => ∃ mA, h.Ns1 a mA ∧ ∀ f, RelO (fs.lookup f) (mA f)
  | .rng lo hi => ∃ t u v, h.get? a = some { cls := .type "range", data := .fields #[.int lo t, .int hi u, .int 1 v] }
  | .frz o u => h.get? a = some o ∧ ObjOk H h a u
  | .tbl ps => h.get? a = some { cls := .none, data := .fields ps }
  | .met f x => h.get? a = some (PySem.W.methodObj (.ref f) (.ref x))
  | .ext φ => φ h ∧ (∃ o, h.get? a = some o) ∧ ∀ h1 h2 : Heap, φ h1 → (∀ o, h1.get? a = some o → h2.get? a = some o) → φ h2
def HOk (H : Hp) (h : Heap) : Prop := ∀ a o, H a = some o → ObjOk P w H h a o
end
section
variable {P : Program} {w : World} {H H' : Hp} {h h' : Heap} {a : Addr} {o : HO}
theorem ObjOk.lt (x : ObjOk P w H h a o) : a < h.objs.size := by
  cases o with
  | lst xs => obtain ⟨_, _, _, _, e⟩ := x; exact Heap.lt_size e
  | tup xs => obtain ⟨_, _, _, p⟩ := x; exact p.lt
  | dK kvs => obtain ⟨_, _, _, _, o, _, _, e, _⟩ := x; exact Heap.lt_size e
  | dT kvs => obtain ⟨_, _, _, _, o, _, _, e, _⟩ := x; exact Heap.lt_size e
  | set S n => obtain ⟨o, _, _, _, e, _⟩ := x; exact Heap.lt_size e
  | ins C dx fs => obtain ⟨_, _, _, e, _⟩ := x; exact Heap.lt_size e
  | own y => obtain ⟨_, e⟩ := x; exact Heap.lt_size e
  | xd fs => obtain ⟨_, ⟨_, _, _, e, _⟩, _⟩ := x; exact Heap.lt_size e
  | rng lo hi => obtain ⟨_, _, _, e⟩ := x; exact Heap.lt_size e
  | frz ob u => obtain ⟨e, _⟩ := x; exact Heap.lt_size e
  | tbl ps => exact Heap.lt_size (show h.get? a = some _ from x)
  | met f y => exact Heap.lt_size (show h.get? a = some _ from x)
  | ext φ => obtain ⟨_, ⟨_, e⟩, _⟩ := x; exact Heap.lt_size e
theorem Paired.mapP {α β : Type} {F G : α → β → Prop} : ∀ {l₁ : List α} {l₂ : List β}, Paired F l₁ l₂ → (∀ a b, F a b → G a b) → Paired G l₁ l₂
  | _, _, .nil, _ => .nil
  | _, _, .cons r t, f => .cons (f _ _ r) (Paired.mapP t f)
theorem ObjOk.stay (x : ObjOk P w H h a o) (k : ∀ b u, (b = a ∨ H b = some (.own a)) → h.get? b = some u → h'.get? b = some u)
    (ho : ∀ b, H b = some (.own a) → H' b = some (.own a)) (ht : ∀ b xs, H b = some (.tup xs) → H' b = some (.tup xs)) : ObjOk P w H' h' a o := by
  induction o with
  | lst xs => obtain ⟨z, its, n, r, e⟩ := x; exact ⟨z, its, n, r, k _ _ (.inl rfl) e⟩
  | tup xs => obtain ⟨z, its, r, ob, e, c⟩ := x; exact ⟨z, its, r, ob, k _ _ (.inl rfl) e, c⟩
  | dK kvs => obtain ⟨z, y, vs, r, ob, es, ep, e, c⟩ := x; exact ⟨z, y, vs, r, ob, es, ep, k _ _ (.inl rfl) e, c⟩
  | dT kvs =>
    obtain ⟨z, y, xs, r, ob, es, ep, e, c⟩ := x
    exact ⟨z, y, xs, Paired.mapP r fun p q z => ⟨z.1, ht _ _ z.2.1, z.2.2⟩, ob, es, ep, k _ _ (.inl rfl) e, c⟩
  | set S n => obtain ⟨ob, es, ep, t, e, c⟩ := x; exact ⟨ob, es, ep, t, k _ _ (.inl rfl) e, c⟩
  | ins C dx fs =>
    obtain ⟨d, z, ne, e, mA, ⟨od, es, ep, e2, c⟩, r⟩ := x
    exact ⟨ho _ d, z, ne, k _ _ (.inl rfl) e, mA, ⟨od, es, ep, k _ _ (.inr d) e2, c⟩, r⟩
  | own y => obtain ⟨ob, e⟩ := x; exact ⟨ob, k _ _ (.inl rfl) e⟩
  | xd fs => obtain ⟨mA, ⟨od, es, ep, e, c⟩, r⟩ := x; exact ⟨mA, ⟨od, es, ep, k _ _ (.inl rfl) e, c⟩, r⟩
  | rng lo hi => obtain ⟨t, u, v, e⟩ := x; exact ⟨t, u, v, k _ _ (.inl rfl) e⟩
  | frz ob u ih => obtain ⟨e, q⟩ := x; exact ⟨k _ _ (.inl rfl) e, ih q⟩
  | tbl ps =>
    have e : h.get? a = some { cls := .none, data := .fields ps } := x
    show h'.get? a = some { cls := .none, data := .fields ps }
    exact k a _ (.inl rfl) e
  | met f y =>
    have e : h.get? a = some (PySem.W.methodObj (.ref f) (.ref y)) := x
    show h'.get? a = some (PySem.W.methodObj (.ref f) (.ref y))
    exact k a _ (.inl rfl) e
  | ext φ => obtain ⟨p, ⟨o, e⟩, st⟩ := x; exact ⟨st _ _ p fun o q => k _ _ (.inl rfl) q, ⟨o, k _ _ (.inl rfl) e⟩, st⟩
theorem HOk.lt (x : HOk P w H h) (e : H a = some o) : a < h.objs.size := (x a o e).lt
theorem HOk.fresh (x : HOk P w H h) (e : h.objs.size ≤ a) : H a = none := by
  cases q : H a with
  | none => rfl
  | some u => exact absurd (Nat.lt_of_lt_of_le (x.lt q) e) (Nat.lt_irrefl _)
theorem HOk.kept (x : HOk P w H h) (k : ∀ b u, h.get? b = some u → h'.get? b = some u) : HOk P w H h' := fun a o e =>
  (x a o e).stay (fun b u _ q => k b u q) (fun _ q => q) fun _ _ q => q
theorem HOk.laid (x : HOk P w H h) (k : ∀ b u, h.get? b = some u → h'.get? b = some u) (hp : h.objs.size ≤ a) (new : ObjOk P w (upd H a o) h' a o) : HOk P w (upd H a o) h' := fun b u e => by
  have hn := x.fresh hp
  by_cases hb : b = a
  · subst hb; rw [upd_same] at e; cases e; exact new
  · rw [upd_ne hb] at e
    exact (x b u e).stay (fun c v _ q => k c v q) (fun c q => by rw [upd_ne (ne_of_none q hn)]; exact q) fun c xs q => by rw [upd_ne (ne_of_none q hn)]; exact q
end
def Rd (H : Hp) (a : Addr) (u : HO) : Prop := H a = some u ∨ ∃ o, H a = some (.frz o u)
theorem Rd.of {H : Hp} {a : Addr} {u : HO} (h : H a = some u) : Rd H a u := .inl h
theorem Rd.ok {P : Program} {w : World} {H : Hp} {h : Heap} {a : Addr} {u : HO} (r : Rd H a u) (x : HOk P w H h) : ObjOk P w H h a u := by
  rcases r with r | ⟨o, r⟩
  · exact x a u r
  · obtain ⟨_, q⟩ := x a _ r
    exact q
def Mut : Option HO → Prop
  | some (.lst _) => True
  | some (.dK _) => True
  | some (.dT _) => True
  | some (.set _ _) => True
  | some (.ins _ _ _) => True
  | some (.ext _) => True
  | _ => False
section
variable {P : Program} {w : World} {H : Hp} {h h' : Heap} {x e : Addr} {o' : HO}
theorem HOk.write (ok : HOk P w H h) (mu : Mut (H x)) (he : e = x ∨ H e = some (.own x)) (k : ∀ b u, b ≠ e → h.get? b = some u → h'.get? b = some u) (heo : ∃ u, h'.get? e = some u)
    (new : ObjOk P w (upd H x o') h' x o') : HOk P w (upd H x o') h' := fun b u q => by
  have nown : ∀ c y, H c = some (.own y) → c ≠ x := fun c y r z => by subst z; rw [r] at mu; exact mu
  have ntup : ∀ c xs, H c = some (.tup xs) → c ≠ x := fun c xs r z => by subst z; rw [r] at mu; exact mu
  by_cases hb : b = x
  · subst hb; rw [upd_same] at q; cases q; exact new
  · rw [upd_ne hb] at q
    by_cases hbe : b = e
    · have q' : H b = some (.own x) := by
        rcases he with z | z
        · exact absurd (hbe.trans z) hb
        · rw [hbe]; exact z
      rw [q] at q'; cases q'
      obtain ⟨v, hv⟩ := heo
      exact ⟨v, by rw [hbe]; exact hv⟩
    · refine (ok b u q).stay (fun c v hc r => k c v ?_ r) (fun c r => by rw [upd_ne (nown c b r)]; exact r) fun c xs r => by rw [upd_ne (ntup c xs r)]; exact r
      rcases hc with rfl | hc
      · exact hbe
      · rintro rfl
        rcases he with z | z
        · exact nown c b hc z
        · rw [hc] at z; cases z; exact hb rfl
end
structure Un (fs ex : List Addr) (H H' : Hp) (h h' : Heap) : Prop where
  keep : ∀ b o, h.get? b = some o → H b = none → b ∉ fs → b ∉ ex → h'.get? b = some o
  slot : ∀ b o, h.get? b = some o → H b = none → b ∈ fs → b ∉ ex → ∃ sl, h'.get? b = some { o with slots := sl }
  free : ∀ b o, h.get? b = some o → H b = none → b ∉ ex → H' b = none
  there : ∀ b o, h.get? b = some o → b ∉ ex → ∃ o', h'.get? b = some o'
  tups : ∀ b xs, H b = some (.tup xs) → H' b = some (.tup xs)
  frzs : ∀ b o u, H b = some (.frz o u) → H' b = some (.frz o u)
  tbls : ∀ b ps, H b = some (.tbl ps) → ∃ more, H' b = some (.tbl (ps ++ more))
section
variable {fs fs' ex ex' : List Addr} {H H1 H2 : Hp} {h h1 h2 h' : Heap} {a x e : Addr} {o : HO}
theorem Un.any (u : Un fs ex H H1 h h1) {b : Addr} {ob : Obj} (q : h.get? b = some ob) (n : H b = none) (hx : b ∉ ex) : ∃ sl, h1.get? b = some { ob with slots := sl } := by
  by_cases hb : b ∈ fs
  · exact u.slot b ob q n hb hx
  · exact ⟨ob.slots, u.keep b ob q n hb hx⟩
theorem Un.trans (a : Un fs ex H H1 h h1) (b : Un fs ex H1 H2 h1 h2) : Un fs ex H H2 h h2 where
  keep := fun c ob q n hc hx => b.keep c ob (a.keep c ob q n hc hx) (a.free c ob q n hx) hc hx
  slot := fun c ob q n hc hx => by
    obtain ⟨sl, e1⟩ := a.slot c ob q n hc hx
    obtain ⟨sl', e2⟩ := b.slot c _ e1 (a.free c ob q n hx) hc hx
    exact ⟨sl', e2⟩
  free := fun c ob q n hx => by
    obtain ⟨o', e1⟩ := a.there c ob q hx
    exact b.free c o' e1 (a.free c ob q n hx) hx
  there := fun c ob q hx => by
    obtain ⟨o', e1⟩ := a.there c ob q hx
    exact b.there c o' e1 hx
  tups := fun c xs q => b.tups c xs (a.tups c xs q)
  frzs := fun c ob xs q => b.frzs c ob xs (a.frzs c ob xs q)
  tbls := fun c ps q => by
    obtain ⟨m1, e1⟩ := a.tbls c ps q
    obtain ⟨m2, e2⟩ := b.tbls c _ e1
    exact ⟨m1 ++ m2, by rw [e2, Array.append_assoc]⟩
theorem Un.kept (k : ∀ b u, h.get? b = some u → h'.get? b = some u) : Un fs ex H H h h' :=
  ⟨fun b ob q _ _ _ => k b ob q, fun b ob q _ _ _ => ⟨ob.slots, k b ob q⟩, fun _ _ _ n _ => n, fun b ob q _ => ⟨ob, k b ob q⟩, fun _ _ q => q, fun _ _ _ q => q, fun _ ps q => ⟨#[], by rw [q]; simp⟩⟩
theorem Un.refl : Un fs ex H H h h := Un.kept fun _ _ q => q
theorem Un.laid (k : ∀ b u, h.get? b = some u → h'.get? b = some u) (hp : h.objs.size ≤ a) (hn : H a = none) : Un fs ex H (upd H a o) h h' where
  keep := fun b u q _ _ _ => k b u q
  slot := fun b u q _ _ _ => ⟨u.slots, k b u q⟩
  free := fun b u q n _ => by rw [upd_ne (Nat.ne_of_lt (Nat.lt_of_lt_of_le (Heap.lt_size q) hp))]; exact n
  there := fun b u q _ => ⟨u, k b u q⟩
  tups := fun b xs q => by rw [upd_ne (ne_of_none q hn)]; exact q
  frzs := fun b u xs q => by rw [upd_ne (ne_of_none q hn)]; exact q
  tbls := fun b ps q => ⟨#[], by rw [upd_ne (ne_of_none q hn), q]; simp⟩
theorem Un.write (mu : Mut (H x)) (he : e = x ∨ H e = some (.own x)) (k : ∀ b u, b ≠ e → h.get? b = some u → h'.get? b = some u) (heo : ∃ u, h'.get? e = some u) : Un fs ex H (upd H x o) h h' := by
  have hx : ∀ b, H b = none → b ≠ x := fun b n z => by subst z; rw [n] at mu; exact mu
  have hb : ∀ b, H b = none → b ≠ e := fun b n z => by
    subst z
    rcases he with r | r
    · exact hx b n r
    · rw [n] at r; cases r
  have hm : ∀ b u, H b = some u → ¬ Mut (some u) → b ≠ x := fun b u q nm z => by subst z; rw [q] at mu; exact nm mu
  refine ⟨fun b u q n _ _ => k b u (hb b n) q, fun b u q n _ _ => ⟨u.slots, k b u (hb b n) q⟩, fun b u q n _ => by rw [upd_ne (hx b n)]; exact n, fun b u q _ => ?_,
    fun b xs q => by rw [upd_ne (hm b _ q fun z => z)]; exact q, fun b u xs q => by rw [upd_ne (hm b _ q fun z => z)]; exact q, fun b ps q => ⟨#[], by rw [upd_ne (hm b _ q fun z => z), q]; simp⟩⟩
  by_cases hbe : b = e
  · subst hbe; exact heo
  · exact ⟨u, k b u hbe q⟩
theorem Un.mono (u : Un fs ex H H1 h h1) (hs : ∀ b ∈ fs, b ∈ fs') (hx : ∀ b ∈ ex, b ∈ ex') : Un fs' ex' H H1 h h1 :=
  ⟨fun b ob q n hb he => u.keep b ob q n (fun z => hb (hs b z)) fun z => he (hx b z), fun _ _ q n _ he => u.any q n fun z => he (hx _ z), fun b ob q n he => u.free b ob q n fun z => he (hx b z), fun b ob q he => u.there b ob q fun z => he (hx b z), u.tups, u.frzs, u.tbls⟩
end
def trk (h : Heap) (H : Hp) : List Addr := (List.range h.objs.size).filter fun a => (H a).isSome
def hidT (h : Heap) (H : Hp) : Heap := PySem.W.hideAll h (trk h H)
theorem hidT_size (h : Heap) (H : Hp) : (hidT h H).objs.size = h.objs.size := PySem.W.hideAll_size _ _
theorem hidT_get {h : Heap} {H : Hp} {b : Addr} {o : Obj} (e : h.get? b = some o) (n : H b = none) : (hidT h H).get? b = some o :=
  PySem.W.hideAll_get _ e fun hm => by
    have q : (H b).isSome = true := (List.mem_filter.mp hm).2
    rw [n] at q; simp at q
theorem of_hidT {h : Heap} {H : Hp} {b : Addr} {o : Obj} (e : (hidT h H).get? b = some o) : h.get? b = some o ∧ H b = none := by
  have e' : h.get? b = some o := PySem.W.of_hideAll (trk h H) e
  refine ⟨e', ?_⟩
  cases q : H b with
  | none => rfl
  | some x =>
    have hm : b ∈ trk h H := List.mem_filter.mpr ⟨List.mem_range.mpr (Heap.lt_size e'), by simp [q]⟩
    have z : (hidT h H).get? b = none := PySem.W.hideAll_none (trk h H) hm
    rw [z] at e; cases e
def allNews (g h : Heap) (L : Addr) : List (Addr × Obj) := (List.range h.objs.size).filterMap fun a => if a = L ∨ (g.get? a).isSome = true then none else (h.get? a).map fun o => (a, o)
def rest (g h : Heap) (L d : Addr) : List (Addr × Obj) := (allNews g h L).filter fun p => decide (p.1 ≠ d)
end L2
namespace L2
open PySem PySem.Spec PyProof.Rows
structure Mod (K : PySem.W.Frag) (mg : Str → Option Value) (base : Heap) : Prop where
  kin : K.In base
  glob : base.Ns mainGlobals mg
  blt : ∃ mb, base.Ns builtinsNs mb ∧ ∀ x : Str, x ≠ "__name__" → mb x = bootBuiltins x
  nolimit : base.NoLimit
structure Cx where
  prog : Program
  w : World
  K : PySem.W.Frag
  mg : Str → Option Value
  base : Heap
  A : Around
  N : List Str
  s₀ : Shared
  H₀ : Hp
  env : Env
  outer : List Env
  stack : List Env
  ex : List Addr
  fn : Str → Bool
  calm : Bool
  pn : List (Addr × Obj)
  xe : Value → Shared → Prop
def frs (l : List Env) : List Addr := l.filterMap (·.frame)
abbrev Cx.fs (X : Cx) : List Addr := frs X.outer
def Vis (sc : Scope) (x : Str) : Prop := sc.names.lookup x = some .local ∨ sc.names.lookup x = some .cell ∨ sc.names.lookup x = some .free
def Loc (sc : Scope) (x : Str) : Prop := sc.names.lookup x = some .local ∨ sc.names.lookup x = some .cell
def Look (env : Env) (h : Heap) (m : Str → Option Value) (x : Str) (u : Value) : Prop :=
  (env.kindOf x = some .local ∧ m x = some u) ∨ ((env.kindOf x = some .cell ∨ env.kindOf x = some .free) ∧ ∃ c, env.cells.lookup x = some c ∧ h.IsCell c (some u))
structure Cx.Ok (X : Cx) : Prop where
  mod : Mod X.K X.mg X.base
  kind : X.env.scope.kind = .function
  glob : X.env.globals = mainGlobals
  blt : X.env.builtins = builtinsNs
  above : X.s₀.heap.objs.size ≤ X.env.locals
  inj : ∀ x y c, X.env.cells.lookup x = some c → X.env.cells.lookup y = some c → x = y
  has : ∀ x, (X.env.kindOf x = some .cell ∨ X.env.kindOf x = some .free) → ∃ c, X.env.cells.lookup x = some c
  cab : ∀ x c, X.fn x = true → X.env.cells.lookup x = some c → X.s₀.heap.objs.size ≤ c
  hd : X.calm = true → X.A.handled = none
  frames : X.A.frames = some X.stack
  stk : X.stack = X.outer ∨ (X.stack = X.env :: X.outer ∧ X.env.frame = some X.env.locals)
  exf : ∀ b ∈ X.ex, b ≠ X.env.locals ∧ ∀ x c, X.env.cells.lookup x = some c → c ≠ b
  bs : ∀ b o, X.base.get? b = some o → X.s₀.heap.get? b = some o ∧ X.H₀ b = none
  bsz : X.base.objs.size ≤ X.s₀.heap.objs.size
  noex : ∀ b o, X.base.get? b = some o → b ∉ X.ex
  exfs : ∀ b ∈ X.ex, b ∉ X.fs
  funs : X.s₀.heap.FunFrames X.base X.outer
  frf : ∀ b ∈ X.fs, X.H₀ b = none
structure Inv (X : Cx) (pins : List (Addr × Obj)) (σ : List (Option V)) (H : Hp) (s : Shared) : Prop where
  ok : X.Ok
  os : s.os = X.s₀.os
  bare : AllBare s.gens
  base : Un X.fs X.ex X.H₀ H X.s₀.heap s.heap
  loc : ∃ m, s.heap.Ns X.env.locals m ∧ ∀ (i : Nat) (x : Str) (v : V), X.N[i]? = some x → σ[i]? = some (some v) → Vis X.env.scope x → ∃ u, RelV v u ∧ Look X.env s.heap m x u
  cell : ∀ x c, X.env.cells.lookup x = some c → ∃ v, s.heap.IsCell c v
  free : H X.env.locals = none
  freeC : ∀ x c, X.env.cells.lookup x = some c → H c = none
  pin : ∀ p ∈ X.pn ++ pins, s.heap.get? p.1 = some p.2 ∧ H p.1 = none ∧ p.1 ≠ X.env.locals ∧ p.1 ∉ X.fs ∧ ∀ v, p.2.data ≠ .cell v
  hok : HOk X.prog X.w H s.heap
  len : σ.length = X.N.length
section
variable {X : Cx} {pins : List (Addr × Obj)} {σ : List (Option V)} {H H' : Hp} {s : Shared} {h' : Heap}
theorem Cx.Ok.nofr (ok : X.Ok) {b : Addr} {o : Obj} (e : X.base.get? b = some o) : b ∉ X.fs := fun hb => by
  have := (ok.funs.mem hb).1
  rw [e] at this; cases this
theorem Inv.bs (I : Inv X pins σ H s) : ∀ b o, X.base.get? b = some o → s.heap.get? b = some o ∧ H b = none := fun b o e =>
  ⟨I.base.keep b o (I.ok.bs b o e).1 (I.ok.bs b o e).2 (I.ok.nofr e) (I.ok.noex b o e), I.base.free b o (I.ok.bs b o e).1 (I.ok.bs b o e).2 (I.ok.noex b o e)⟩
theorem Inv.bk (I : Inv X pins σ H s) : ∀ b o, X.base.get? b = some o → s.heap.get? b = some o := fun b o e => (I.bs b o e).1
theorem Inv.mod (I : Inv X pins σ H s) : Mod X.K X.mg X.base := I.ok.mod
theorem Inv.kIn (I : Inv X pins σ H s) : X.K.In s.heap := I.ok.mod.kin.keeps I.bk
theorem Inv.nolimit (I : Inv X pins σ H s) : s.heap.NoLimit := I.ok.mod.nolimit.keeps I.bk
theorem Inv.fr (I : Inv X pins σ H s) : ∃ m, Fr X.base X.env.locals s.heap m :=
  let ⟨m, hn, _⟩ := I.loc
  ⟨m, hn, I.bk, Nat.le_trans I.ok.bsz I.ok.above⟩
theorem Inv.lt (I : Inv X pins σ H s) : X.env.locals < s.heap.objs.size := let ⟨_, hn, _⟩ := I.loc; hn.lt
theorem Inv.sz (I : Inv X pins σ H s) : X.s₀.heap.objs.size ≤ s.heap.objs.size := Nat.le_trans I.ok.above (Nat.le_of_lt I.lt)
theorem Inv.nofs (I : Inv X pins σ H s) {a : Addr} (h : s.heap.objs.size ≤ a) : a ∉ X.fs := fun hb => by
  obtain ⟨_, o, ho, _⟩ := I.ok.funs.mem hb
  exact absurd (Nat.lt_of_lt_of_le (Heap.lt_size ho) (Nat.le_trans I.sz h)) (Nat.lt_irrefl _)
theorem Inv.cne (I : Inv X pins σ H s) : ∀ x c, X.env.cells.lookup x = some c → c ≠ X.env.locals := fun x c e z => by
  obtain ⟨v, o, ho, hd⟩ := I.cell x c e
  obtain ⟨m, ⟨o', es, ep, ho', hd', _⟩, _⟩ := I.loc
  rw [z, ho'] at ho; cases ho; rw [hd'] at hd; cases hd
theorem Inv.funs (I : Inv X pins σ H s) : s.heap.FunFrames X.base X.outer := by
  have all : ∀ (l : List Env), (∀ b ∈ frs l, b ∈ X.fs) → X.s₀.heap.FunFrames X.base l → s.heap.FunFrames X.base l := by
    intro l
    induction l with
    | nil => intro _ _; trivial
    | cons env r ih =>
      intro hs hl
      obtain ⟨hk, ⟨L, o, hf, hn, ho, hd⟩, hr⟩ := hl
      have hL : L ∈ X.fs := hs L (by unfold frs; rw [List.filterMap_cons, hf]; exact List.mem_cons_self)
      obtain ⟨sl, e⟩ := I.base.slot L o ho (I.ok.frf L hL) hL fun z => I.ok.exfs L z hL
      exact ⟨hk, ⟨L, _, hf, hn, e, hd⟩, ih (fun b hb => hs b (by unfold frs; rw [List.filterMap_cons, hf]; exact List.mem_cons_of_mem _ hb)) hr⟩
  exact all X.outer (fun _ hb => hb) I.ok.funs
theorem Inv.stack (I : Inv X pins σ H s) : s.heap.FunFrames X.base X.stack := by
  rcases I.ok.stk with e | ⟨e, hf⟩
  · rw [e]; exact I.funs
  · rw [e]
    obtain ⟨m, hn, _⟩ := I.loc
    refine .cons (by rw [I.ok.kind]; decide) hf hn ?_ I.funs
    exact Heap.get?_none_of_le (Nat.le_trans I.ok.bsz I.ok.above)
theorem Inv.stkSub (I : Inv X pins σ H s) : ∀ b ∈ frs X.stack, b ∈ X.env.locals :: X.fs := fun b hb => by
  rcases I.ok.stk with e | ⟨e, hf⟩
  · rw [e] at hb; exact List.mem_cons_of_mem _ hb
  · rw [e] at hb
    unfold frs at hb
    rw [List.filterMap_cons, hf] at hb
    exact hb
theorem Inv.stkFree (I : Inv X pins σ H s) : ∀ b ∈ frs X.stack, H b = none := fun b hb => by
  rcases List.mem_cons.mp (I.stkSub b hb) with e | hb
  · rw [e]; exact I.free
  · obtain ⟨_, o, ho, _⟩ := I.ok.funs.mem hb
    exact I.base.free b o ho (I.ok.frf b hb) fun z => I.ok.exfs b z hb
theorem Inv.step {g' : Array GenState} {t' : Nat} {d' : Drawn} {ch : List Addr} (I : Inv X pins σ H s)
    (hch : ∀ b ∈ ch, (b ∈ X.ex ∨ X.s₀.heap.objs.size ≤ b) ∧ b ≠ X.env.locals ∧ (∀ x c, X.env.cells.lookup x = some c → c ≠ b) ∧ ∀ p ∈ X.pn ++ pins, p.1 ≠ b)
    (keep : ∀ b o, b ≠ X.env.locals → b ∉ X.fs → b ∉ ch → s.heap.get? b = some o → H b = none → h'.get? b = some o)
    (slot : ∀ b o, b ≠ X.env.locals → b ∈ X.fs → b ∉ ch → s.heap.get? b = some o → H b = none → ∃ sl, h'.get? b = some { o with slots := sl }) (free : ∀ b o, b ∉ ch → s.heap.get? b = some o → H b = none → H' b = none)
    (there : ∀ b o, b ∉ ch → s.heap.get? b = some o → ∃ o', h'.get? b = some o')
    (tups : ∀ b xs, H b = some (.tup xs) → H' b = some (.tup xs)) (frzs : ∀ b o u, H b = some (.frz o u) → H' b = some (.frz o u)) (tbls : ∀ b ps, H b = some (.tbl ps) → ∃ more, H' b = some (.tbl (ps ++ more)))
    (ns : ∀ m, s.heap.Ns X.env.locals m → h'.Ns X.env.locals m) (hok : HOk X.prog X.w H' h') (hg : AllBare g') :
    Inv X pins σ H' { s with heap := h', gens := g', drawn := d', toks := t' } := by
  have neL : ∀ b o, X.s₀.heap.get? b = some o → b ≠ X.env.locals := fun b o e => Nat.ne_of_lt (Nat.lt_of_lt_of_le (Heap.lt_size e) I.ok.above)
  have neC : ∀ b o, X.s₀.heap.get? b = some o → b ∉ X.ex → b ∉ ch := fun b o e hx hb => by
    rcases (hch b hb).1 with z | z
    · exact hx z
    · exact absurd (Nat.lt_of_lt_of_le (Heap.lt_size e) z) (Nat.lt_irrefl _)
  have cellK : ∀ x c, X.env.cells.lookup x = some c → ∀ v, s.heap.IsCell c v → h'.IsCell c v := fun x c e v ⟨o, ho, hd⟩ => by
    have nch : c ∉ ch := fun z => (hch c z).2.2.1 x c e rfl
    by_cases hc : c ∈ X.fs
    · obtain ⟨sl, q⟩ := slot c o (I.cne x c e) hc nch ho (I.freeC x c e)
      exact ⟨_, q, hd⟩
    · exact ⟨o, keep c o (I.cne x c e) hc nch ho (I.freeC x c e), hd⟩
  refine ⟨I.ok, I.os, hg, ⟨fun b o e n hb hx => ?_, fun b o e n hb hx => ?_, fun b o e n hx => ?_, fun b o e hx => ?_, fun b xs e => tups b xs (I.base.tups b xs e), fun b o xs e => frzs b o xs (I.base.frzs b o xs e), fun b ps e => ?_⟩, ?_, fun x c e => ?_, ?_, fun x c e => ?_, fun p hp => ?_, hok, I.len⟩
  · exact keep b o (neL b o e) hb (neC b o e hx) (I.base.keep b o e n hb hx) (I.base.free b o e n hx)
  · obtain ⟨sl, e1⟩ := I.base.slot b o e n hb hx
    obtain ⟨sl', e2⟩ := slot b _ (neL b o e) hb (neC b o e hx) e1 (I.base.free b o e n hx)
    exact ⟨sl', e2⟩
  · obtain ⟨o', e1⟩ := I.base.there b o e hx
    exact free b o' (neC b o e hx) e1 (I.base.free b o e n hx)
  · obtain ⟨o', e1⟩ := I.base.there b o e hx
    exact there b o' (neC b o e hx) e1
  · obtain ⟨m1, e1⟩ := I.base.tbls b ps e
    obtain ⟨m2, e2⟩ := tbls b _ e1
    exact ⟨m1 ++ m2, by rw [e2, Array.append_assoc]⟩
  · obtain ⟨m, hn, hl⟩ := I.loc
    refine ⟨m, ns m hn, fun i x v e1 e2 e3 => ?_⟩
    obtain ⟨u, r, l⟩ := hl i x v e1 e2 e3
    refine ⟨u, r, ?_⟩
    rcases l with l | ⟨k, c, e, z⟩
    · exact .inl l
    · exact .inr ⟨k, c, e, cellK x c e _ z⟩
  · obtain ⟨v, z⟩ := I.cell x c e
    exact ⟨v, cellK x c e v z⟩
  · obtain ⟨m, ⟨o, _, _, ho, _⟩, _⟩ := I.loc
    exact free _ o (fun z => (hch _ z).2.1 rfl) ho I.free
  · obtain ⟨v, o, ho, hd⟩ := I.cell x c e
    exact free c o (fun z => (hch c z).2.2.1 x c e rfl) ho (I.freeC x c e)
  · obtain ⟨e, n, ne, nf, d⟩ := I.pin p hp
    have nch : p.1 ∉ ch := fun z => (hch p.1 z).2.2.2 p hp rfl
    exact ⟨keep p.1 p.2 ne nf nch e n, free p.1 p.2 nch e n, ne, nf, d⟩
theorem Inv.un {t' : Nat} (I : Inv X pins σ H s) (u : Un X.fs [] H H' s.heap h') (hok : HOk X.prog X.w H' h') : Inv X pins σ H' { s with heap := h', toks := t' } := by
  obtain ⟨m, ⟨o, es, ep, ho, r⟩, _⟩ := id I.loc
  obtain ⟨sl, hL⟩ := u.any ho I.free (by simp)
  exact I.step (g' := s.gens) (d' := s.drawn) (ch := []) (fun _ z => nomatch z) (fun b o _ hb _ e n => u.keep b o e n hb (by simp)) (fun b o _ hb _ e n => u.slot b o e n hb (by simp)) (fun b o _ e n => u.free b o e n (by simp)) (fun b o _ e => u.there b o e (by simp)) u.tups u.frzs u.tbls (fun m' hm => by
    obtain ⟨o', es', ep', ho', r'⟩ := hm
    rw [ho] at ho'; cases ho'
    exact ⟨_, es', ep', hL, r'⟩) hok I.bare
theorem Inv.call {g' : Array GenState} {t' : Nat} {d' : Drawn} {ch : List Addr} (I : Inv X pins σ H s) (u : Un (frs X.stack) ch H H' s.heap h') (hok : HOk X.prog X.w H' h') (hg : AllBare g')
    (hch : ∀ b ∈ ch, (b ∈ X.ex ∨ X.s₀.heap.objs.size ≤ b) ∧ b ≠ X.env.locals ∧ (∀ x c, X.env.cells.lookup x = some c → c ≠ b) ∧ ∀ p ∈ X.pn ++ pins, p.1 ≠ b) :
    Inv X pins σ H' { s with heap := h', gens := g', drawn := d', toks := t' } := by
  obtain ⟨m, ⟨o, es, ep, ho, r⟩, _⟩ := id I.loc
  obtain ⟨sl, hL⟩ := u.any ho I.free fun z => (hch _ z).2.1 rfl
  exact I.step (ch := ch) hch (fun b o hL hb hc e n => u.keep b o e n (fun z => (List.mem_cons.mp (I.stkSub b z)).elim hL hb) hc) (fun b o _ _ hc e n => u.any e n hc) (fun b o hc e n => u.free b o e n hc) (fun b o hc e => u.there b o e hc) u.tups u.frzs u.tbls (fun m' hm => by
    obtain ⟨o', es', ep', ho', r'⟩ := hm
    rw [ho] at ho'; cases ho'
    exact ⟨_, es', ep', hL, r'⟩) hok hg
theorem Inv.turned {t' : Nat} {it : Addr} (I : Inv X pins σ H s) (k : ∀ b o, b ≠ it → s.heap.get? b = some o → h'.get? b = some o) (hn : H it = none) (hL : it ≠ X.env.locals)
    (h1 : it ∈ X.ex ∨ X.s₀.heap.objs.size ≤ it) (h2 : ∀ x c, X.env.cells.lookup x = some c → c ≠ it) (h3 : ∀ p ∈ X.pn ++ pins, p.1 ≠ it) : Inv X pins σ H { s with heap := h', toks := t' } := by
  have nit : ∀ b u, H b = some u → b ≠ it := fun b u e z => by rw [z, hn] at e; cases e
  refine I.step (g' := s.gens) (d' := s.drawn) (ch := [it]) (fun b hb => ?_) (fun b o _ _ hc e _ => k b o (fun z => hc (by simp [z])) e) (fun b o _ _ hc e _ => ⟨o.slots, k b o (fun z => hc (by simp [z])) e⟩) (fun _ _ _ _ n => n)
    (fun b o hc e => ⟨o, k b o (fun z => hc (by simp [z])) e⟩) (fun _ _ e => e) (fun _ _ _ e => e) (fun b ps e => ⟨#[], by rw [e]; simp⟩) (fun m hm => ?_) (fun b u e => ?_) I.bare
  · have e : b = it := by simpa using hb
    subst e
    exact ⟨h1, hL, h2, h3⟩
  · obtain ⟨o, es, ep, ho, r⟩ := hm
    exact ⟨o, es, ep, k _ o (Ne.symm hL) ho, r⟩
  · refine (I.hok b u e).stay (fun c v hc q => k c v ?_ q) (fun _ q => q) fun _ _ q => q
    rcases hc with z | z
    · rw [z]; exact nit b u e
    · exact nit c _ z
theorem Inv.tok (I : Inv X pins σ H s) (t : Nat) : Inv X pins σ H { s with toks := t } := I.un (h' := s.heap) (t' := t) Un.refl I.hok
theorem Inv.kept {t' : Nat} (I : Inv X pins σ H s) (k : ∀ b u, s.heap.get? b = some u → h'.get? b = some u) : Inv X pins σ H { s with heap := h', toks := t' } := I.un (Un.kept k) (I.hok.kept k)
theorem Inv.laid {a : Addr} {o : HO} {t' : Nat} (I : Inv X pins σ H s) (k : ∀ b u, s.heap.get? b = some u → h'.get? b = some u) (hp : s.heap.objs.size ≤ a) (new : ObjOk X.prog X.w (upd H a o) h' a o) :
    Inv X pins σ (upd H a o) { s with heap := h', toks := t' } := I.un (Un.laid k hp (I.hok.fresh hp)) (I.hok.laid k hp new)
theorem Inv.write {x e : Addr} {o : HO} {t' : Nat} (I : Inv X pins σ H s) (mu : Mut (H x)) (he : e = x ∨ H e = some (.own x)) (k : ∀ b u, b ≠ e → s.heap.get? b = some u → h'.get? b = some u) (heo : ∃ u, h'.get? e = some u)
    (new : ObjOk X.prog X.w (upd H x o) h' x o) : Inv X pins σ (upd H x o) { s with heap := h', toks := t' } := I.un (Un.write mu he k heo) (I.hok.write mu he k heo new)
theorem Inv.weak {σ' : List (Option V)} (I : Inv X pins σ H s) (hl : σ'.length = σ.length) (w : ∀ (i : Nat) v, σ'[i]? = some (some v) → σ[i]? = some (some v)) : Inv X pins σ' H s :=
  ⟨I.ok, I.os, I.bare, I.base, let ⟨m, hn, hl'⟩ := I.loc; ⟨m, hn, fun i x v e1 e2 e3 => hl' i x v e1 (w i v e2) e3⟩, I.cell, I.free, I.freeC, I.pin, I.hok, hl.trans I.len⟩
theorem Inv.pins_of {pins' : List (Addr × Obj)} (I : Inv X pins σ H s) (h : ∀ p ∈ pins', s.heap.get? p.1 = some p.2 ∧ H p.1 = none ∧ p.1 ≠ X.env.locals ∧ p.1 ∉ X.fs ∧ ∀ v, p.2.data ≠ .cell v) : Inv X pins' σ H s :=
  ⟨I.ok, I.os, I.bare, I.base, I.loc, I.cell, I.free, I.freeC, fun p hp => (List.mem_append.mp hp).elim (fun z => I.pin p (List.mem_append_left _ z)) (h p), I.hok, I.len⟩
theorem nodup_ix {N : List Str} (hN : N.Nodup) {i j : Nat} {x : Str} (a : N[i]? = some x) (b : N[j]? = some x) : i = j := by
  obtain ⟨h1, e1⟩ := List.getElem?_eq_some_iff.mp a
  obtain ⟨h2, e2⟩ := List.getElem?_eq_some_iff.mp b
  exact (List.getElem_inj hN).mp (e1.trans e2.symm)
theorem store_ok2 {M : Model} {A : Around} {E : Value → Shared → Prop} {i : Nat} {x : Str} {v : V} {u : Value} {Q : Unit → Shared → Prop} (I : Inv X pins σ H s) (hN : X.N.Nodup) (hi : X.N[i]? = some x) (hx : Loc X.env.scope x) (r : RelV v u)
    (h : ∀ s', Inv X pins (σ.set i (some v)) H s' → (∃ a, Heap.SameBut a s.heap s'.heap ∧ (a = X.env.locals ∨ X.env.cells.lookup x = some a)) → Q () s') (hf : X.fn x = true ∨ X.env.scope.names.lookup x = some .local := by first | exact .inl rfl | exact .inr rfl | assumption) : wpAny M A (storeName X.env x u) Q E s := by
  obtain ⟨m, hn, hl⟩ := id I.loc
  have hcls : (X.env.scope.kind == .class || (X.env.scope.kind == .module && X.env.locals != X.env.globals)) = false := by rw [I.ok.kind]; rfl
  have hiσ : i < σ.length := by rw [I.len]; exact (List.getElem?_eq_some_iff.mp hi).1
  have cne := I.cne
  have tracked : ∀ {a : Addr} {h' : Heap}, (∃ o, s.heap.get? a = some o ∧ H a = none) → Heap.SameBut a s.heap h' → HOk X.prog X.w H h' := fun {a h'} ha hs b ob e => by
    obtain ⟨_, _, hfree⟩ := ha
    refine (I.hok b ob e).stay (fun c w' hc q => (hs.2 c ?_).trans q) (fun _ q => q) fun _ _ q => q
    rintro rfl
    rcases hc with rfl | hc
    · rw [hfree] at e; cases e
    · rw [hfree] at hc; cases hc
  rcases hx with hk | hk
  · refine wpAny_storeName_local hk hn (fun h' hn' hs => ?_) hcls
    obtain ⟨oL, _, _, hoL, _⟩ := id hn
    refine h _ ⟨I.ok, I.os, I.bare, ⟨fun b o e n hb hx => ?_, fun b o e n hb hx => ?_, I.base.free, fun b o e hx => ?_, I.base.tups, I.base.frzs, I.base.tbls⟩, ⟨_, hn', fun j y v' e1 e2 e3 => ?_⟩, fun y c e => ?_, I.free, I.freeC, fun p hp => ?_, tracked ⟨oL, hoL, I.free⟩ hs, by simpa using I.len⟩ ⟨_, hs, .inl rfl⟩
    · exact (hs.2 b (Nat.ne_of_lt (Nat.lt_of_lt_of_le (Heap.lt_size e) I.ok.above))).trans (I.base.keep b o e n hb hx)
    · obtain ⟨sl, e1⟩ := I.base.slot b o e n hb hx
      exact ⟨sl, (hs.2 b (Nat.ne_of_lt (Nat.lt_of_lt_of_le (Heap.lt_size e) I.ok.above))).trans e1⟩
    · obtain ⟨o', e1⟩ := I.base.there b o e hx
      exact ⟨o', (hs.2 b (Nat.ne_of_lt (Nat.lt_of_lt_of_le (Heap.lt_size e) I.ok.above))).trans e1⟩
    · by_cases hj : j = i
      · subst hj
        rw [hi] at e1; cases e1
        rw [List.getElem?_set_self hiσ] at e2
        cases e2
        exact ⟨u, r, .inl ⟨hk, by simp⟩⟩
      · rw [List.getElem?_set_ne (Ne.symm hj)] at e2
        obtain ⟨u', r', q⟩ := hl j y v' e1 e2 e3
        refine ⟨u', r', ?_⟩
        rcases q with ⟨k, e⟩ | ⟨k, c, e, z⟩
        · refine .inl ⟨k, ?_⟩
          have : y ≠ x := fun e => hj (nodup_ix hN e1 (e ▸ hi))
          simp [this, e]
        · exact .inr ⟨k, c, e, z.sameBut hs (cne y c e)⟩
    · obtain ⟨w', z⟩ := I.cell y c e
      exact ⟨w', z.sameBut hs (cne y c e)⟩
    · obtain ⟨e, n, ne, nf, d⟩ := I.pin p hp
      exact ⟨(hs.2 p.1 ne).trans e, n, ne, nf, d⟩
  · have hfn : X.fn x = true := by
      rcases hf with z | z
      · exact z
      · rw [z] at hk; cases hk
    obtain ⟨c, hc⟩ := I.ok.has x (.inl hk)
    obtain ⟨w', z⟩ := I.cell x c hc
    refine wpAny_storeName_cell I.ok.kind hk hc z (fun h' hc' hs => ?_)
    obtain ⟨oc, hoc, hocd⟩ := id z
    refine h { s with heap := h' } ⟨I.ok, I.os, I.bare, ⟨fun b o e n hb hx => ?_, fun b o e n hb hx => ?_, I.base.free, fun b o e hx => ?_, I.base.tups, I.base.frzs, I.base.tbls⟩, ⟨m, hn.sameBut hs (Ne.symm (cne x c hc)), fun j y v' e1 e2 e3 => ?_⟩, fun y c' e => ?_, I.free, I.freeC, fun p hp => ?_, tracked ⟨oc, hoc, I.freeC x c hc⟩ hs, by simpa using I.len⟩ ⟨c, hs, .inr hc⟩
    · exact (hs.2 b (Nat.ne_of_lt (Nat.lt_of_lt_of_le (Heap.lt_size e) (I.ok.cab x c hfn hc)))).trans (I.base.keep b o e n hb hx)
    · obtain ⟨sl, e1⟩ := I.base.slot b o e n hb hx
      exact ⟨sl, (hs.2 b (Nat.ne_of_lt (Nat.lt_of_lt_of_le (Heap.lt_size e) (I.ok.cab x c hfn hc)))).trans e1⟩
    · obtain ⟨o', e1⟩ := I.base.there b o e hx
      exact ⟨o', (hs.2 b (Nat.ne_of_lt (Nat.lt_of_lt_of_le (Heap.lt_size e) (I.ok.cab x c hfn hc)))).trans e1⟩
    · by_cases hj : j = i
      · subst hj
        rw [hi] at e1; cases e1
        rw [List.getElem?_set_self hiσ] at e2
        cases e2
        exact ⟨u, r, .inr ⟨.inl hk, c, hc, hc'⟩⟩
      · rw [List.getElem?_set_ne (Ne.symm hj)] at e2
        obtain ⟨u', r', q⟩ := hl j y v' e1 e2 e3
        refine ⟨u', r', ?_⟩
        rcases q with q | ⟨k, c', e, z'⟩
        · exact .inl q
        · refine .inr ⟨k, c', e, z'.sameBut hs ?_⟩
          rintro rfl
          exact hj (nodup_ix hN e1 (I.ok.inj _ _ _ e hc ▸ hi))
    · by_cases hcc : c' = c
      · subst hcc; exact ⟨_, hc'⟩
      · obtain ⟨w2, z2⟩ := I.cell y c' e
        exact ⟨w2, z2.sameBut hs hcc⟩
    · obtain ⟨e, n, ne, nf, d⟩ := I.pin p hp
      refine ⟨(hs.2 p.1 ?_).trans e, n, ne, nf, d⟩
      intro q
      rw [q, hoc] at e
      have q' : oc = p.2 := Option.some.inj e
      exact d w' (by rw [← q']; exact hocd)
theorem store_ok {M : Model} {A : Around} {E : Value → Shared → Prop} {i : Nat} {x : Str} {v : V} {u : Value} {Q : Unit → Shared → Prop} (I : Inv X pins σ H s) (hN : X.N.Nodup) (hi : X.N[i]? = some x) (hx : Loc X.env.scope x) (r : RelV v u)
    (h : ∀ s', Inv X pins (σ.set i (some v)) H s' → Q () s') (hf : X.fn x = true ∨ X.env.scope.names.lookup x = some .local := by first | exact .inl rfl | exact .inr rfl | assumption) : wpAny M A (storeName X.env x u) Q E s :=
  store_ok2 I hN hi hx r (fun s' I' _ => h s' I') hf
theorem Inv.call' {s' : Shared} {ch : List Addr} (I : Inv X pins σ H s) (ho : s'.os = s.os) (u : Un (frs X.stack) ch H H' s.heap s'.heap) (hok : HOk X.prog X.w H' s'.heap) (hg : AllBare s'.gens)
    (hch : ∀ b ∈ ch, (b ∈ X.ex ∨ X.s₀.heap.objs.size ≤ b) ∧ b ≠ X.env.locals ∧ (∀ x c, X.env.cells.lookup x = some c → c ≠ b) ∧ ∀ p ∈ X.pn ++ pins, p.1 ≠ b) : Inv X pins σ H' s' := by
  obtain ⟨h', g', d', t', o'⟩ := s'
  have e : o' = s.os := ho
  subst e
  exact I.call (g' := g') (t' := t') (d' := d') u hok hg hch
end
abbrev XK := Value → Option Addr → Hp → Prop
abbrev St := List (Option V)
abbrev VK := V → Hp → Prop
abbrev TE := St → Hp → VK → Prop
abbrev TT := St → Hp → (Bool → Hp → Prop) → Prop
abbrev TA := St → Hp → (List V → Hp → Prop) → Prop
structure Ends where
  nx : St → Hp → Prop
  rt : VK
  bk : St → Hp → Prop := fun _ _ => False
  ct : St → Hp → Prop := fun _ _ => False
abbrev TS := Ends → St → Hp → Prop
def EP (X : Cx) (pins : List (Addr × Obj)) (σ : St) (Q : VK) (u : Value) (s' : Shared) : Prop := ∃ v H', Inv X pins σ H' s' ∧ RelV v u ∧ Q v H'
def TP (X : Cx) (pins : List (Addr × Obj)) (σ : St) (Q : Bool → Hp → Prop) (b : Bool) (s' : Shared) : Prop := ∃ H', Inv X pins σ H' s' ∧ Q b H'
def AP (X : Cx) (pins : List (Addr × Obj)) (σ : St) (Q : List V → Hp → Prop) (us : List Value) (s' : Shared) : Prop := ∃ vs H', Inv X pins σ H' s' ∧ Vals vs us ∧ Q vs H'
def SP (X : Cx) (pins : List (Addr × Obj)) (D : Ends) (f : Flow) (s' : Shared) : Prop :=
  match f with
  | .next => ∃ σ' H', Inv X pins σ' H' s' ∧ D.nx σ' H'
  | .brk => ∃ σ' H', Inv X pins σ' H' s' ∧ D.bk σ' H'
  | .cont => ∃ σ' H', Inv X pins σ' H' s' ∧ D.ct σ' H'
  | .ret u => ∃ v σ' H', Inv X pins σ' H' s' ∧ RelV v u ∧ D.rt v H'
def PE (X : Cx) (e : Expr) (t : TE) : Prop :=
  ∀ (pins : List (Addr × Obj)) (s : Shared) (σ : St) (H : Hp) (Q : VK), Inv X pins σ H s → t σ H Q → wpAny (model X.prog X.w) X.A (eval e X.env) (EP X pins σ Q) X.xe s
def PT (X : Cx) (e : Expr) (t : TT) : Prop :=
  ∀ (pins : List (Addr × Obj)) (s : Shared) (σ : St) (H : Hp) (Q : Bool → Hp → Prop), Inv X pins σ H s → t σ H Q → wpAny (model X.prog X.w) X.A (isTrue e X.env (eval e X.env)) (TP X pins σ Q) X.xe s
def PW (X : Cx) (e : Expr) (t : TT) : Prop :=
  ∀ (whole : Sem Value) (pins : List (Addr × Obj)) (s : Shared) (σ : St) (H : Hp) (Q : Bool → Hp → Prop), Inv X pins σ H s → t σ H Q → wpAny (model X.prog X.w) X.A (isTrue e X.env whole) (TP X pins σ Q) X.xe s
theorem PW.pt {X : Cx} {e : Expr} {t : TT} (h : PW X e t) : PT X e t := h _
def PA (X : Cx) (es : List Expr) (t : TA) : Prop :=
  ∀ (pos : Pos) (pins : List (Addr × Obj)) (s : Shared) (σ : St) (H : Hp) (Q : List V → Hp → Prop), Inv X pins σ H s → t σ H Q → wpAny (model X.prog X.w) X.A (spliced (backTo pos (starEach es X.env))) (AP X pins σ Q) X.xe s
def PS (X : Cx) (st : Stmt) (t : TS) : Prop :=
  ∀ (pins : List (Addr × Obj)) (s : Shared) (σ : St) (H : Hp) (D : Ends), Inv X pins σ H s → t D σ H → wpAny (model X.prog X.w) X.A (exec st X.env) (SP X pins D) X.xe s
def PSs (X : Cx) (st : List Stmt) (t : TS) : Prop :=
  ∀ (pins : List (Addr × Obj)) (s : Shared) (σ : St) (H : Hp) (D : Ends), Inv X pins σ H s → t D σ H → wpAny (model X.prog X.w) X.A (execs st X.env) (SP X pins D) X.xe s
theorem thn {α : Type} {t : Sem α} {Q Q' : α → Shared → Prop} {M : Model} {A : Around} {E : Value → Shared → Prop} {s : Shared} (h : wpAny M A t Q E s) (hQ : ∀ a s, Q a s → Q' a s) : wpAny M A t Q' E s := wpAny_mono h hQ fun _ _ x => x
end L2
namespace L2
open PySem PySem.Spec PyProof.Rows
section
variable {X : Cx}
def tVar (i : Nat) : TE := fun σ H Q => ∃ v, σ[i]? = some (some v) ∧ Q v H
def tC (v : V) : TE := fun _ H Q => Q v H
theorem pe_var {i : Nat} {x : Str} {pos : Pos} (hN : X.N[i]? = some x) (hv : Vis X.env.scope x) (hd : (x == ("__debug__" : Str)) = false := by decide) (hcd : (x == ("__classdict__" : Str)) = false := by decide) : PE X (.Name x pos) (tVar i) := by
  intro pins s σ H Q I h
  obtain ⟨v, e, h⟩ := h
  obtain ⟨m, hn, hl⟩ := I.loc
  obtain ⟨u, r, l⟩ := hl i x v hN e hv
  have fin : EP X pins σ Q u s := ⟨v, H, I, r, h⟩
  rcases l with ⟨hk, hm⟩ | ⟨hk, c, hc, hcell⟩
  · exact wpAny_Name (wpAny_loadName_local I.ok.kind hk hn hm fin) hd
  · rcases hk with hk | hk
    · exact wpAny_Name (wpAny_loadName_cell I.ok.kind hk hc hcell fin) hd
    · exact wpAny_Name (wpAny_loadName_free I.ok.kind hk hc hcell fin hcd) hd
theorem pe_int {i j pos} : PE X (.Constant (.int i) j pos) (tC (.int i)) := fun _ _ _ H _ I h => wpAny_Constant_int ⟨.int i, H, I.tok _, ⟨_, rfl⟩, h⟩
theorem pe_bl {b j pos} : PE X (.Constant (.bool b) j pos) (tC (.bl b)) := fun _ _ _ H _ I h => Constant_bool ⟨.bl b, H, I, rfl, h⟩
theorem pe_str {x j pos} : PE X (.Constant (.str x) j pos) (tC (.str x)) := fun _ _ _ H _ I h => Calls.Constant_str ⟨.str x, H, I.tok _, ⟨_, rfl⟩, h⟩
def Gl (X : Cx) (x : Str) : Prop := X.env.kindOf x = some .globalImplicit
theorem ld_glob {E : Value → Shared → Prop} {pins : List (Addr × Obj)} {s : Shared} {σ : St} {H : Hp} {x : Str} {u : Value} {pos : Pos} {Q : Value → Shared → Prop} (I : Inv X pins σ H s) (hg : Gl X x) (hm : X.mg x = some u) (h : Q u s)
    (hd : (x == ("__debug__" : Str)) = false := by decide) : wpAny (model X.prog X.w) X.A (eval (.Name x pos) X.env) Q E s :=
  Calls.Name_function_global I.ok.kind hg (Calls.loadGlobal_global (by rw [I.ok.glob]; exact I.mod.glob.keeps I.bk) hm h) hd
theorem ld_blt {E : Value → Shared → Prop} {pins : List (Addr × Obj)} {s : Shared} {σ : St} {H : Hp} {x : Str} {u : Value} {pos : Pos} {Q : Value → Shared → Prop} (I : Inv X pins σ H s) (hg : Gl X x) (hm : X.mg x = none) (hv : bootBuiltins x = some u) (h : Q u s)
    (hn : x ≠ "__name__" := by decide) (hd : (x == ("__debug__" : Str)) = false := by decide) : wpAny (model X.prog X.w) X.A (eval (.Name x pos) X.env) Q E s := by
  obtain ⟨mb, h1, h2⟩ := I.mod.blt
  exact Calls.Name_function_global I.ok.kind hg (Calls.loadGlobal_builtin (by rw [I.ok.glob]; exact I.mod.glob.keeps I.bk) hm (by rw [I.ok.blt]; exact h1.keeps I.bk) ((h2 x hn).trans hv) h) hd
theorem pe_glob {x : Str} {v : V} {u : Value} {pos : Pos} (hg : Gl X x) (hm : X.mg x = some u) (r : RelV v u) (hd : (x == ("__debug__" : Str)) = false := by decide) : PE X (.Name x pos) (tC v) :=
  fun _ _ _ H _ I h => ld_glob I hg hm ⟨v, H, I, r, h⟩ hd
theorem pe_bltn {x : Str} {v : V} {u : Value} {pos : Pos} (hg : Gl X x) (hm : X.mg x = none) (hv : bootBuiltins x = some u) (r : RelV v u) (hn : x ≠ "__name__" := by decide) (hd : (x == ("__debug__" : Str)) = false := by decide) : PE X (.Name x pos) (tC v) :=
  fun _ _ _ H _ I h => ld_blt I hg hm hv ⟨v, H, I, r, h⟩ hn hd
variable {a b : Expr} {ta tb : TE} {pos : Pos}
def PC (X : Cx) (op : CmpOp) (a b : Expr) (t : TE) : Prop :=
  ∀ (pins : List (Addr × Obj)) (s : Shared) (σ : St) (H : Hp) (Q : VK), Inv X pins σ H s → t σ H Q →
    wpAny (model X.prog X.w) X.A (eval a X.env) (fun v s₁ => wpAny (model X.prog X.w) X.A (eval b X.env) (fun u s₂ => wpAny (model X.prog X.w) X.A (compareOp op v u) (EP X pins σ Q) X.xe s₂) X.xe s₁) X.xe s
theorem nobehind (b : Expr) {op : CmpOp} (h : op ≠ .In) (h2 : op ≠ .NotIn) : behindInMarks op b = false := by
  have e1 : (op == CmpOp.In) = false := by cases op <;> first | rfl | exact absurd rfl h
  have e2 : (op == CmpOp.NotIn) = false := by cases op <;> first | rfl | exact absurd rfl h2
  cases b <;> simp [behindInMarks, e1, e2]
def tB (t : TE) : TT := fun σ H Q => t σ H fun x H1 => ∃ c, x = .bl c ∧ Q c H1
theorem pe_cmp {op : CmpOp} {t : TE} (h : PC X op a b t) (h1 : behindInMarks op b = false := by first | exact nobehind _ (by decide) (by decide) | rfl) : PE X (.Compare a [op] [b] pos) t := fun pins s σ H Q I hw => wpAny_Compare1 (h pins s σ H Q I hw) h1
theorem pt_cmp {op : CmpOp} {t : TE} (h : PC X op a b t) (h1 : behindInMarks op b = false := by first | exact nobehind _ (by decide) (by decide) | rfl) : PT X (.Compare a [op] [b] pos) (tB t) := by
  intro pins s σ H Q I hw
  refine wpAny_isTrue_Compare1 (thn (h pins s σ H _ I hw) fun v s1 h1 => thn h1 fun u s2 h2 => thn h2 fun c s3 ⟨x, H1, I1, r1, q1⟩ => ?_) h1
  obtain ⟨d, rfl, q⟩ := q1
  cases r1
  exact wpAny_truthy_bool ⟨H1, I1, q⟩
theorem pt_val {e : Expr} {t : TE} (h : PE X e t) (he : ∀ whole, isTrue e X.env whole = (do let v ← whole; standAt e.pos; holding [v] (truthy v)) := by intro _; rfl) : PT X e (tB t) := by
  intro pins s σ H Q I hw
  refine isTrue_plain (thn (h pins s σ H _ I hw) fun v s1 ⟨x, H1, I1, r1, q1⟩ => ?_) (he _)
  obtain ⟨d, rfl, q⟩ := q1
  cases r1
  exact wpAny_truthy_bool ⟨H1, I1, q⟩
variable {tA tB' : TT} {rest : List Expr}
def tAnd (t u : TT) : TT := fun σ H Q => t σ H fun c H1 => if c = true then u σ H1 Q else Q false H1
def tOr (t u : TT) : TT := fun σ H Q => t σ H fun c H1 => if c = true then Q true H1 else u σ H1 Q
def tNot (t : TT) : TT := fun σ H Q => t σ H fun c H1 => Q (!c) H1
theorem pw_and1 (ha : PT X a tA) : PW X (.BoolOp .And [a] pos) tA := by
  intro wh pins s σ H Q I h
  refine isTrue_and (thn (ha pins s σ H Q I h) fun c s1 e => ?_)
  cases c with
  | true => exact isTrue_and_nil e
  | false => exact e
theorem pw_or1 (ha : PT X a tA) : PW X (.BoolOp .Or [a] pos) tA := by
  intro wh pins s σ H Q I h
  refine isTrue_or (thn (ha pins s σ H Q I h) fun c s1 e => ?_)
  cases c with
  | false => exact isTrue_or_nil e
  | true => exact e
theorem pw_and (ha : PT X a tA) (hb : PW X (.BoolOp .And (b :: rest) pos) tB') : PW X (.BoolOp .And (a :: b :: rest) pos) (tAnd tA tB') := by
  intro wh pins s σ H Q I h
  refine isTrue_and (thn (ha pins s σ H _ I h) fun c s1 ⟨H1, I1, q1⟩ => ?_)
  cases c with
  | true => exact hb wh pins s1 σ H1 Q I1 q1
  | false => exact ⟨H1, I1, q1⟩
theorem pw_or (ha : PT X a tA) (hb : PW X (.BoolOp .Or (b :: rest) pos) tB') : PW X (.BoolOp .Or (a :: b :: rest) pos) (tOr tA tB') := by
  intro wh pins s σ H Q I h
  refine isTrue_or (thn (ha pins s σ H _ I h) fun c s1 ⟨H1, I1, q1⟩ => ?_)
  cases c with
  | true => exact ⟨H1, I1, q1⟩
  | false => exact hb wh pins s1 σ H1 Q I1 q1
theorem pt_not (ha : PT X a tA) : PT X (.UnaryOp .Not a pos) (tNot tA) := by
  intro pins s σ H Q I h
  exact isTrue_not (ha pins s σ H (fun c H1 => Q (!c) H1) I h)
def tAndV (ta tb : TE) : TE := fun σ H Q => ta σ H fun x H1 => ∃ c, x = .bl c ∧ if c = true then tb σ H1 Q else Q (.bl false) H1
def tOrV (ta tb : TE) : TE := fun σ H Q => ta σ H fun x H1 => ∃ c, x = .bl c ∧ if c = true then Q (.bl true) H1 else tb σ H1 Q
def tNotV (ta : TE) : TE := fun σ H Q => ta σ H fun x H1 => ∃ c, x = .bl c ∧ Q (.bl (!c)) H1
theorem pe_one {op} {t : TE} (h : PE X a t) : PE X (.BoolOp op [a] pos) t := fun pins s σ H Q I hw => BoolOp_one (h pins s σ H Q I hw)
theorem pe_and (ha : PE X a ta) (hb : PE X (.BoolOp .And (b :: rest) pos) tb) : PE X (.BoolOp .And (a :: b :: rest) pos) (tAndV ta tb) := by
  intro pins s σ H Q I h
  refine BoolOp_and (thn (ha pins s σ H _ I h) fun v s1 ⟨x, H1, I1, r1, q1⟩ => ?_)
  obtain ⟨c, rfl, q1⟩ := q1
  cases r1
  refine wpAny_truthy_bool ?_
  cases c with
  | true => exact hb pins s1 σ H1 Q I1 q1
  | false => exact ⟨.bl false, H1, I1, rfl, q1⟩
theorem pe_or (ha : PE X a ta) (hb : PE X (.BoolOp .Or (b :: rest) pos) tb) : PE X (.BoolOp .Or (a :: b :: rest) pos) (tOrV ta tb) := by
  intro pins s σ H Q I h
  refine BoolOp_or (thn (ha pins s σ H _ I h) fun v s1 ⟨x, H1, I1, r1, q1⟩ => ?_)
  obtain ⟨c, rfl, q1⟩ := q1
  cases r1
  refine wpAny_truthy_bool ?_
  cases c with
  | false => exact hb pins s1 σ H1 Q I1 q1
  | true => exact ⟨.bl true, H1, I1, rfl, q1⟩
theorem pe_not (ha : PE X a ta) : PE X (.UnaryOp .Not a pos) (tNotV ta) := by
  intro pins s σ H Q I h
  refine UnaryOp_ (thn (ha pins s σ H _ I h) fun v s1 ⟨x, H1, I1, r1, q1⟩ => ?_)
  obtain ⟨c, rfl, q1⟩ := q1
  cases r1
  exact not_of (wpAny_truthy_bool ⟨.bl (!c), H1, I1, rfl, q1⟩)
def tIf (t : TT) (ta tb : TE) : TE := fun σ H Q => t σ H fun c H1 => if c = true then ta σ H1 Q else tb σ H1 Q
theorem pe_ifExp {c : Expr} (hc : PT X c tA) (ha : PE X a ta) (hb : PE X b tb) : PE X (.IfExp c a b pos) (tIf tA ta tb) := by
  intro pins s σ H Q I h
  refine wpAny_IfExp (thn (hc pins s σ H _ I h) fun d s1 ⟨H1, I1, q1⟩ => ?_)
  cases d with
  | true => exact ha pins s1 σ H1 Q I1 q1
  | false => exact hb pins s1 σ H1 Q I1 q1
end
end L2
namespace L2
open PySem PySem.Spec PyProof.Rows
def SqL (K : PySem.W.Frag) (H : Hp) (a : Addr) (xs : List V) : Prop :=
  Rd H a (.lst xs) ∨
    ∃ (o : Obj) (its : Array Value) (n : Nat), K.lookup a = some o ∧ o.cls = .type "list" ∧ o.dict = none ∧ o.data = .seq its n ∧ its.size ≤ sizeLine ∧ Vals xs its.toList
def SqT (K : PySem.W.Frag) (H : Hp) (a : Addr) (xs : List V) : Prop :=
  Rd H a (.tup xs) ∨
    ∃ (o : Obj) (its : Array Value) (n : Nat), K.lookup a = some o ∧ o.cls = .type "tuple" ∧ o.data = .seq its n ∧ its.size ≤ sizeLine ∧ Vals xs its.toList
def absV : Value → Option V
  | .none => some .non
  | .bool b => some (.bl b)
  | .int i _ => some (.int i)
  | .str x _ => some (.str x)
  | .bytes b _ => some (.byt b)
  | .float b _ => some (.flt b)
  | .ref a => some (.ref a)
  | .type n => some (.ty n)
  | _ => none
theorem RelV.abs {x : V} {u : Value} (r : RelV x u) : absV u = some x := by
  cases x with
  | non => cases r; rfl
  | bl _ => cases r; rfl
  | int _ => obtain ⟨t, rfl⟩ := r; rfl
  | str _ => obtain ⟨t, rfl⟩ := r; rfl
  | byt _ => obtain ⟨t, rfl⟩ := r; rfl
  | flt _ => obtain ⟨t, rfl⟩ := r; rfl
  | ref _ => cases r; rfl
  | ty _ => cases r; rfl
theorem RelV.inj {x y : V} {u : Value} (r : RelV x u) (q : RelV y u) : x = y := Option.some.inj (r.abs.symm.trans q.abs)
theorem Vals.inj : ∀ {xs ys : List V} {us : List Value}, Vals xs us → Vals ys us → xs = ys
  | _, _, _, .nil, .nil => rfl
  | _, _, _, .cons r t, .cons r' t' => by rw [r.inj r', Vals.inj t t']
section
variable {X : Cx} {pins : List (Addr × Obj)} {σ : St} {H : Hp} {s : Shared} {a : Addr} {xs ys : List V}
theorem SqL.of {K : PySem.W.Frag} (h : H a = some (.lst xs)) : SqL K H a xs := .inl (.inl h)
theorem SqT.of {K : PySem.W.Frag} (h : H a = some (.tup xs)) : SqT K H a xs := .inl (.inl h)
theorem Inv.list (I : Inv X pins σ H s) (h : SqL X.K H a xs) : ∃ its : List Value, Vals xs its ∧ PlainL s.heap a its.toArray ∧ xs.length ≤ sizeLine := by
  rcases h with h | ⟨o, its, n, hk, hc, hd, hs, hz, r⟩
  · obtain ⟨z, its, n, r, e⟩ := h.ok I.hok
    exact ⟨its, r, ⟨_, n, e, rfl, rfl, rfl⟩, z⟩
  · refine ⟨its.toList, r, ⟨o, n, I.kIn a o hk, hc, hd, by simpa using hs⟩, ?_⟩
    have e := r.length
    simp only [Array.length_toList] at e
    omega
theorem Inv.tuple (I : Inv X pins σ H s) (h : SqT X.K H a xs) : ∃ its : List Value, Vals xs its ∧ IsTup s.heap a its.toArray ∧ xs.length ≤ sizeLine := by
  rcases h with h | ⟨o, its, n, hk, hc, hs, hz, r⟩
  · obtain ⟨z, its, r, p⟩ := h.ok I.hok
    exact ⟨its, r, p, z⟩
  · refine ⟨its.toList, r, ⟨o, I.kIn a o hk, hc, n, by simpa using hs⟩, ?_⟩
    have e := r.length
    simp only [Array.length_toList] at e
    omega
theorem Inv.list_inj (I : Inv X pins σ H s) (h : SqL X.K H a xs) (h' : SqL X.K H a ys) : xs = ys := by
  obtain ⟨its, r, ⟨o, n, e, _, _, d⟩, _⟩ := I.list h
  obtain ⟨its', r', ⟨o', n', e', _, _, d'⟩, _⟩ := I.list h'
  rw [e] at e'; cases e'
  rw [d] at d'
  injection d' with d1 _
  have : its = its' := by simpa using congrArg Array.toList d1
  subst this
  exact r.inj r'
theorem Inv.tuple_inj (I : Inv X pins σ H s) (h : SqT X.K H a xs) (h' : SqT X.K H a ys) : xs = ys := by
  obtain ⟨its, r, ⟨o, e, _, n, d⟩, _⟩ := I.tuple h
  obtain ⟨its', r', ⟨o', e', _, n', d'⟩, _⟩ := I.tuple h'
  rw [e] at e'; cases e'
  rw [d] at d'
  injection d' with d1 _
  have : its = its' := by simpa using congrArg Array.toList d1
  subst this
  exact r.inj r'
end
abbrev Cx.wish (X : Cx) (E : Value → Shared → Prop) : Cx := { X with xe := E }
abbrev Cx.nox (X : Cx) : Cx := X.wish fun _ _ => False
theorem Cx.Ok.wish {X : Cx} (ok : X.Ok) (E : Value → Shared → Prop) : (X.wish E).Ok :=
  ⟨ok.mod, ok.kind, ok.glob, ok.blt, ok.above, ok.inj, ok.has, ok.cab, ok.hd, ok.frames, ok.stk, ok.exf, ok.bs, ok.bsz, ok.noex, ok.exfs, ok.funs, ok.frf⟩
theorem Cx.Ok.unwish {X : Cx} {E : Value → Shared → Prop} (ok : (X.wish E).Ok) : X.Ok :=
  ⟨ok.mod, ok.kind, ok.glob, ok.blt, ok.above, ok.inj, ok.has, ok.cab, ok.hd, ok.frames, ok.stk, ok.exf, ok.bs, ok.bsz, ok.noex, ok.exfs, ok.funs, ok.frf⟩
section
variable {X : Cx} {pins : List (Addr × Obj)} {σ : St} {H : Hp} {s : Shared} {E : Value → Shared → Prop}
theorem Inv.wish (I : Inv X pins σ H s) (E : Value → Shared → Prop) : Inv (X.wish E) pins σ H s := ⟨I.ok.wish E, I.os, I.bare, I.base, I.loc, I.cell, I.free, I.freeC, I.pin, I.hok, I.len⟩
theorem Inv.unwish (I : Inv (X.wish E) pins σ H s) : Inv X pins σ H s := ⟨I.ok.unwish, I.os, I.bare, I.base, I.loc, I.cell, I.free, I.freeC, I.pin, I.hok, I.len⟩
theorem SP.unwish {D : Ends} {f : Flow} {s' : Shared} (h : SP (X.wish E) pins D f s') : SP X pins D f s' := by
  cases f with
  | next => obtain ⟨σ', H', I, q⟩ := h; exact ⟨σ', H', I.unwish, q⟩
  | brk => obtain ⟨σ', H', I, q⟩ := h; exact ⟨σ', H', I.unwish, q⟩
  | cont => obtain ⟨σ', H', I, q⟩ := h; exact ⟨σ', H', I.unwish, q⟩
  | ret u => obtain ⟨v, σ', H', I, r, q⟩ := h; exact ⟨v, σ', H', I.unwish, r, q⟩
theorem PE.nox {e : Expr} {t : TE} (h : PE X.nox e t) : PE X e t := fun pins s σ H Q I hw =>
  wpAny_mono (h pins s σ H Q (I.wish _) hw) (fun _ _ ⟨v, H', I', r, q⟩ => ⟨v, H', I'.unwish, r, q⟩) fun _ _ z => False.elim z
theorem PT.nox {e : Expr} {t : TT} (h : PT X.nox e t) : PT X e t := fun pins s σ H Q I hw =>
  wpAny_mono (h pins s σ H Q (I.wish _) hw) (fun _ _ ⟨H', I', q⟩ => ⟨H', I'.unwish, q⟩) fun _ _ z => False.elim z
theorem PSs.nox {st : List Stmt} {t : TS} (h : PSs X.nox st t) : PSs X st t := fun pins s σ H D I hw =>
  wpAny_mono (h pins s σ H D (I.wish _) hw) (fun _ _ q => q.unwish) fun _ _ z => False.elim z
end
section
variable {X : Cx} {st : Stmt} {rest : List Stmt} {t u : TS} {e : Expr} {te : TE} {pos : Pos}
def tNext : TS := fun D σ H => D.nx σ H
def tSeq (t u : TS) : TS := fun D σ H => t { D with nx := u D } σ H
theorem pss_nil : PSs X [] tNext := fun _ _ σ H _ I h => wpAny_execs_nil ⟨σ, H, I, h⟩
theorem pss_cons (h1 : PS X st t) (h2 : PSs X rest u) : PSs X (st :: rest) (tSeq t u) := by
  intro pins s σ H D I h
  refine wpAny_execs_cons (thn (h1 pins s σ H { D with nx := u D } I h) fun f s1 q => ?_)
  cases f with
  | next =>
    obtain ⟨σ', H', I', q⟩ := q
    exact h2 pins s1 σ' H' D I' q
  | ret v => exact q
  | brk => exact q
  | cont => exact q
theorem pss_one (h1 : PS X st t) : PSs X [st] t := by
  intro pins s σ H D I h
  refine wpAny_execs_cons (thn (h1 pins s σ H D I h) fun f s1 q => ?_)
  cases f with
  | next => exact wpAny_execs_nil q
  | ret v => exact q
  | brk => exact q
  | cont => exact q
theorem Inv.quiet {pins : List (Addr × Obj)} {σ : St} {H : Hp} {s : Shared} (I : Inv X pins σ H s) : interactive X.env = false := by simp [interactive, I.ok.kind]
def tDrop (te : TE) : TS := fun D σ H => te σ H fun _ H1 => D.nx σ H1
theorem ps_expr (he : PE X e te) (hs : swapsWith e none pos.line X.env = pure false := by rfl) : PS X (.Expr e pos) (tDrop te) := by
  intro pins s σ H D I h
  exact wpAny_Expr_any (thn (he pins s σ H _ I h) fun v s1 ⟨x, H1, I1, r1, q1⟩ => ⟨σ, H1, I1, q1⟩) I.quiet hs
def tRet (te : TE) : TS := fun D σ H => te σ H D.rt
theorem ps_ret (he : PE X e te) : PS X (.Return (some e) pos) (tRet te) := by
  intro pins s σ H D I h
  exact wpAny_Return_some (thn (he pins s σ H _ I h) fun v s1 ⟨x, H1, I1, r1, q1⟩ => ⟨x, σ, H1, I1, r1, q1⟩)
def tIfS (c : TT) (t u : TS) : TS := fun D σ H => c σ H fun b H1 => if b = true then t D σ H1 else u D σ H1
theorem ps_if {c : Expr} {a b : List Stmt} {tc : TT} (hc : PT X c tc) (ha : PSs X a t) (hb : PSs X b u) : PS X (.If c a b pos) (tIfS tc t u) := by
  intro pins s σ H D I h
  refine wpAny_If (thn (hc pins s σ H _ I h) fun d s1 ⟨H1, I1, q1⟩ => ?_)
  cases d with
  | true => exact ha pins s1 σ H1 D I1 q1
  | false => exact hb pins s1 σ H1 D I1 q1
def tNever : TS := fun _ _ _ => False
theorem ps_never : PS X st tNever := fun _ _ _ _ _ _ h => h.elim
end
abbrev TG := V → St → Hp → (St → Hp → Prop) → Prop
abbrev TGs := List V → St → Hp → (St → Hp → Prop) → Prop
def PG (X : Cx) (target : Expr) (t : TG) : Prop :=
  ∀ (pins : List (Addr × Obj)) (s : Shared) (σ : St) (H : Hp) (v : V) (u : Value) (Q : St → Hp → Prop), Inv X pins σ H s → RelV v u → t v σ H Q →
    wpAny (model X.prog X.w) X.A (assign target X.env u) (fun _ s' => ∃ σ' H', Inv X pins σ' H' s' ∧ Q σ' H') X.xe s
def PGs (X : Cx) (ts : List Expr) (t : TGs) : Prop :=
  ∀ (pins : List (Addr × Obj)) (s : Shared) (σ : St) (H : Hp) (vs : List V) (us : List Value) (Q : St → Hp → Prop), Inv X pins σ H s → Vals vs us → t vs σ H Q →
    wpAny (model X.prog X.w) X.A (assignInOrder ((assignEach ts X.env).map (·.2)) us) (fun _ s' => ∃ σ' H', Inv X pins σ' H' s' ∧ Q σ' H') X.xe s
abbrev TSet := V → V → V → Hp → (Hp → Prop) → Prop
def PSet (X : Cx) (t : TSet) : Prop :=
  ∀ (pins : List (Addr × Obj)) (s : Shared) (σ : St) (H : Hp) (o i v : V) (ov iv u : Value) (Q : Hp → Prop), Inv X pins σ H s → RelV o ov → RelV i iv → RelV v u → t o i v H Q →
    wpAny (model X.prog X.w) X.A (setItem ov iv u) (fun _ s' => ∃ H', Inv X pins σ H' s' ∧ Q H') X.xe s
section
variable {X : Cx} {pos : Pos}
def gName (i : Nat) : TG := fun v σ H Q => Q (σ.set i (some v)) H
theorem pg_name {i : Nat} {x : Str} (hN : X.N.Nodup) (hi : X.N[i]? = some x) (hx : Loc X.env.scope x) (hf : X.fn x = true ∨ X.env.scope.names.lookup x = some .local := by first | exact .inl rfl | exact .inr rfl | assumption) : PG X (.Name x pos) (gName i) := by
  intro pins s σ H v u Q I r h
  exact wpAny_assign_Name (store_ok I hN hi hx r (fun s' I' => ⟨_, H, I', h⟩) hf)
def gNil : TGs := fun vs σ H Q => vs = [] ∧ Q σ H
def gCons (t : TG) (u : TGs) : TGs := fun vs σ H Q => ∃ v r, vs = v :: r ∧ t v σ H fun σ' H' => u r σ' H' Q
theorem pgs_nil : PGs X [] gNil := by
  intro pins s σ H vs us Q I r h
  obtain ⟨e, h⟩ := h
  subst e
  cases r
  exact assignInOrder_nil ⟨σ, H, I, h⟩
theorem pgs_cons {e : Expr} {es : List Expr} {t : TG} {u : TGs} (h1 : PG X e t) (h2 : PGs X es u)
    (hs : (assignEach (e :: es) X.env).map (·.2) = assign e X.env :: (assignEach es X.env).map (·.2) := by rfl) : PGs X (e :: es) (gCons t u) := by
  intro pins s σ H vs us Q I r h
  obtain ⟨v, vr, e1, h⟩ := h
  subst e1
  cases r with
  | cons r rr =>
    rw [hs]
    refine assignInOrder_cons (thn (h1 pins s σ H _ _ _ I r h) fun _ s1 ⟨σ1, H1, I1, q1⟩ => ?_)
    exact h2 pins s1 σ1 H1 _ _ Q I1 rr q1
def gTup (K : PySem.W.Frag) (n : Nat) (t : TGs) : TG := fun v σ H Q => ∃ a xs, v = .ref a ∧ SqT K H a xs ∧ xs.length = n ∧ t xs σ H Q
theorem pg_tup {es : List Expr} {k : Nat} {t : TGs} {n : Nat} (hc : X.calm = true) (h : PGs X es t)
    (hn : (assignEach es X.env).length = n := by rfl) (hst : (assignEach es X.env).findIdx? (·.1) = none := by rfl) : PG X (.Tuple es k pos) (gTup X.K n t) := by
  intro pins s σ H v u Q I r hw
  obtain ⟨a, xs, e1, hq, hl, hw⟩ := hw
  subst e1
  cases r
  obtain ⟨its, rv, ht, hz⟩ := I.tuple hq
  refine assign_Tuple_tuple (I.ok.hd hc) ht (by simp [hn, ← hl, rv.length]) hst fun h' hx => ?_
  have I1 : Inv X pins σ H { s with heap := h' } := I.kept (t' := s.toks) fun b o e => hx b o (Nat.ne_of_lt (Heap.lt_size e)) e
  exact h pins _ σ H xs _ Q I1 (by simpa using rv) hw
def gSub (to ti : TE) (t : TSet) : TG := fun v σ H Q => to σ H fun o H1 => ti σ H1 fun i H2 => t o i v H2 fun H3 => Q σ H3
theorem pg_sub {o i : Expr} {to ti : TE} {t : TSet} (ho : PE X o to) (hi : PE X i ti) (hs : PSet X t)
    (ha : ∀ v, assign (.Subscript o i pos) X.env v = (do
      let ov ← holding [v] (eval o X.env)
      let iv ← holding [v, ov] (eval i X.env)
      standAt pos
      holding [v, ov, iv] (setItem ov iv v)
      release [v, ov, iv] []) := by intro _; rfl) : PG X (.Subscript o i pos) (gSub to ti t) := by
  intro pins s σ H v u Q I r h
  rw [ha]
  refine wpAny_bind (wpAny_holding (thn (ho pins s σ H _ I h) fun ov s1 ⟨x, H1, I1, r1, q1⟩ => ?_))
  refine wpAny_bind (wpAny_holding (thn (hi pins s1 σ H1 _ I1 q1) fun iv s2 ⟨y, H2, I2, r2, q2⟩ => ?_))
  refine wpAny_bind (wpAny_standAt (wpAny_bind (wpAny_holding (thn (hs pins s2 σ H2 x y v ov iv u _ I2 r1 r2 r q2) fun _ s3 ⟨H3, I3, q3⟩ => ?_))))
  exact wpAny_release ⟨σ, H3, I3, q3⟩
def tAsg (te : TE) (g : TG) : TS := fun D σ H => te σ H fun x H1 => g x σ H1 D.nx
theorem ps_asg {tg e : Expr} {te : TE} {g : TG} (he : PE X e te) (hg : PG X tg g) (hs : swapsWithSole [tg] e pos.line X.env = pure false := by rfl) (hw : swappedStores [tg] e X.env = pure none := by rfl)
    (h1 : (assignEach [tg] X.env).map (·.2) = [assign tg X.env] := by rfl) : PS X (.Assign [tg] e pos) (tAsg te g) := by
  intro pins s σ H D I h
  refine wpAny_Assign_stores (thn (he pins s σ H _ I h) fun v s1 ⟨x, H1, I1, r1, q1⟩ => ?_) hs hw
  rw [h1]
  exact thn (hg pins s1 σ H1 x v _ I1 r1 q1) fun _ s2 q => q
theorem ps_set {i : Nat} {x : Str} {e : Expr} {te : TE} {pos' : Pos} (hN : X.N.Nodup) (hi : X.N[i]? = some x) (hx : Loc X.env.scope x) (he : PE X e te) (hs : swapsWith e (some (.Name x pos')) pos.line X.env = pure false := by rfl) (hf : X.fn x = true ∨ X.env.scope.names.lookup x = some .local := by first | exact .inl rfl | exact .inr rfl | assumption) :
    PS X (.Assign [.Name x pos'] e pos) (tAsg te (gName i)) := by
  intro pins s σ H D I h
  refine wpAny_Assign_Name (thn (he pins s σ H _ I h) fun v s1 ⟨y, H1, I1, r1, q1⟩ => ?_) hs
  exact store_ok I1 hN hi hx r1 (fun s2 I2 => ⟨_, H1, I2, q1⟩) hf
def tPar (i j : Nat) (ta : TA) : TS := fun D σ H => ta σ H fun vs H1 => ∃ v w, vs = [v, w] ∧ D.nx ((σ.set i (some v)).set j (some w)) H1
theorem ps_par {i j : Nat} {x y : Str} {a b : Expr} {ta : TA} {px py pt : Pos} {kt k2 pt2} (hc : X.calm = true) (hN : X.N.Nodup) (hi : X.N[i]? = some x) (hj : X.N[j]? = some y) (hij : i ≠ j)
    (hx : X.env.scope.names.lookup x = some .local) (hy : X.env.scope.names.lookup y = some .local) (ha : PA X [a, b] ta)
    (hw : swappedStores [.Tuple [.Name x px, .Name y py] kt pt] (.Tuple [a, b] k2 pt2) X.env = pure (some [x, y]))
    (hs : swapsWithSole [.Tuple [.Name x px, .Name y py] kt pt] (.Tuple [a, b] k2 pt2) pos.line X.env = pure false := by rfl) :
    PS X (.Assign [.Tuple [.Name x px, .Name y py] kt pt] (.Tuple [a, b] k2 pt2) pos) (tPar i j ta) := by
  intro pins s σ H D I h
  rw [exec_Assign_arm]
  refine wpAny_bind (wpAny_standAt ?_)
  rw [hs]
  refine wpAny_bind (wpAny_pure ?_)
  rw [if_neg (by decide)]
  refine wpAny_bind (Tuple_ (thn (ha _ pins s σ H _ I h) fun us s1 ⟨vs, H1, I1, r1, q1⟩ => ?_))
  obtain ⟨v, w, e1, q1⟩ := q1
  subst e1
  obtain ⟨u1, u2, rfl, rv, rw'⟩ : ∃ u1 u2, us = [u1, u2] ∧ RelV v u1 ∧ RelV w u2 := by
    cases r1 with
    | cons p q =>
      cases q with
      | cons p' q' =>
        cases q'
        exact ⟨_, _, rfl, p, p'⟩
  refine wpAny_newObj_type ?_ (by show 2 ≤ sizeLine; decide)
  have I2 : Inv X pins σ H1 { s1 with heap := s1.heap.push { cls := .type "tuple", data := .seq [u1, u2].toArray } } := I1.kept (t' := s1.toks) fun b o e => Heap.get?_push_of_some _ e
  rw [hw]
  refine wpAny_bind (wpAny_pure ?_)
  show wpAny (model X.prog X.w) X.A (do rule "assign.swapped-stores"; let items ← unpackItems (.ref s1.heap.objs.size) 2 none; assignInOrder [fun v => bindName X.env y v, fun v => bindName X.env x v] items.reverse; pure Flow.next) _ _ _
  refine wpAny_bind (wpAny_rule (wpAny_bind (unpackItems_tuple (items := #[u1, u2]) (I.ok.hd hc) (IsTup.new s1.heap _) fun h' hx' => ?_)))
  have I3 := I2.kept (h' := h') (t' := s1.toks) fun b o e => hx' b o (Nat.ne_of_lt (Heap.lt_size e)) e
  show wpAny _ _ (assignInOrder [fun v => bindName X.env y v, fun v => bindName X.env x v] [u2, u1] >>= fun _ => pure Flow.next) _ _ _
  refine wpAny_bind (assignInOrder_cons (wpAny_bindName (store_ok I3 hN hj (.inl hy) rw' (fun s2 I4 => ?_) (.inr hy))))
  refine assignInOrder_cons (wpAny_bindName (store_ok I4 hN hi (.inl hx) rv (fun s3 I5 => assignInOrder_nil (wpAny_pure ?_)) (.inr hx)))
  rw [List.set_comm _ _ (Ne.symm hij)] at I5
  exact ⟨_, H1, I5, q1⟩
end
section
variable {X : Cx} {pos : Pos}
end
structure It where
  go : Nat → Hp → Prop
  yld : Nat → Hp → V → Hp → Prop
  stop : Nat → Hp → Prop
def FpOk (X : Cx) (pins : List (Addr × Obj)) (H : Hp) (b : Addr) : Prop :=
  H b = none ∧ b ≠ X.env.locals ∧ b ∉ X.fs ∧ (b ∈ X.ex ∨ X.s₀.heap.objs.size ≤ b) ∧ (∀ x c, X.env.cells.lookup x = some c → c ≠ b) ∧ ∀ p ∈ X.pn ++ pins, p.1 ≠ b
theorem Inv.fpOk {X : Cx} {pins : List (Addr × Obj)} {σ : St} {H H' : Hp} {s : Shared} {b : Addr} (I : Inv X pins σ H s) (hb : s.heap.objs.size ≤ b) (hn : H' b = none) : FpOk X pins H' b := by
  refine ⟨hn, Nat.ne_of_gt (Nat.lt_of_lt_of_le I.lt hb), I.nofs hb, .inr (Nat.le_trans I.sz hb), fun x c e z => ?_, fun p hp z => ?_⟩
  · obtain ⟨v, q⟩ := I.cell x c e
    exact absurd (Nat.lt_of_lt_of_le q.lt (by rw [z]; exact hb)) (Nat.lt_irrefl _)
  · exact absurd (Nat.lt_of_lt_of_le (Heap.lt_size (I.pin p hp).1) (by rw [z]; exact hb)) (Nat.lt_irrefl _)
structure Turn (P : Program) (w : World) (K : PySem.W.Frag) (tg : Expr) (J : It) (fp : List Addr) (it : Addr) (tn : Nat → Heap → Prop) : Prop where
  mem : it ∈ fp
  obj : ∀ i h, tn i h → ∀ b ∈ fp, ∃ o, h.get? b = some o ∧ ∀ v, o.data ≠ .cell v
  keep : ∀ i h h', tn i h → (∀ b ∈ fp, ∀ o, h.get? b = some o → h'.get? b = some o) → tn i h'
  item : ∀ (X : Cx), X.prog = P → X.w = w → X.K = K → X.calm = true → ∀ (i : Nat) (pins : List (Addr × Obj)) (s : Shared) (σ : St) (H : Hp) (E : Value → Shared → Prop), Inv X pins σ H s → (∀ b ∈ fp, FpOk X pins H b) → tn i s.heap → J.go i H →
    wpAny (model P w) X.A (pyNext (.ref it)) (fun r s1 => ∃ u, r = some u ∧
      wpAny (model P w) X.A (letOwnedTupleGo tg (.ref it) u) (fun _ s2 => ∃ x H', Inv X pins σ H' s2 ∧ RelV x u ∧ J.yld i H x H' ∧ tn (i + 1) s2.heap ∧ ∀ b ∈ fp, H' b = none) E s1) E s
  done : ∀ (X : Cx), X.prog = P → X.w = w → X.K = K → X.calm = true → ∀ (i : Nat) (pins : List (Addr × Obj)) (s : Shared) (σ : St) (H : Hp) (E : Value → Shared → Prop), Inv X pins σ H s → (∀ b ∈ fp, FpOk X pins H b) → tn i s.heap → J.stop i H →
    wpAny (model P w) X.A (pyNext (.ref it)) (fun r s1 => r = none ∧ Inv X pins σ H s1) E s
  self : ∀ (A : Around) (i : Nat) (s : Shared) (Q : Value → Shared → Prop) (E : Value → Shared → Prop), tn i s.heap → Q (.ref it) s → wpAny (model P w) A (pyIter (.ref it)) Q E s
abbrev TI := St → Hp → (It → Hp → Prop) → Prop
def PIE (X : Cx) (pins : List (Addr × Obj)) (σ : St) (tg : Expr) (R : It → Hp → Prop) (itv : Value) (s2 : Shared) : Prop :=
  ∃ (it : Addr) (fp : List Addr) (tn : Nat → Heap → Prop) (J : It) (H' : Hp), itv = .ref it ∧ Inv X pins σ H' s2 ∧ Turn X.prog X.w X.K tg J fp it tn ∧ tn 0 s2.heap ∧ (∀ b ∈ fp, FpOk X pins H' b) ∧ R J H'
def PI (X : Cx) (tg iter : Expr) (wi : TI) : Prop :=
  ∀ (pins : List (Addr × Obj)) (s : Shared) (σ : St) (H : Hp) (R : It → Hp → Prop), Inv X pins σ H s → wi σ H R →
    wpAny (model X.prog X.w) X.A (eval iter X.env) (fun v s1 => wpAny (model X.prog X.w) X.A (pyIter v) (PIE X pins σ tg R) X.xe s1) X.xe s
theorem go_of {M : Model} {A : Around} {E : Value → Shared → Prop} {s : Shared} {tg : Expr} {it : Addr} {u : Value} {o : Obj} {n : String} {vs : Array Value} {Q : Unit → Shared → Prop} (ho : s.heap.get? it = some o) (hc : o.cls = .type n) (hd : o.data = .fields vs)
    (hn : ["enumerate", "zip", "dict_itemiterator", "dict_reverseitemiterator", "odict_iterator", "itertools.zip_longest", "itertools.pairwise"].contains n = false) (hQ : Q () s) : wpAny M A (letOwnedTupleGo tg (.ref it) u) Q E s := by
  unfold letOwnedTupleGo
  cases tg <;> first
    | exact wpAny_pure hQ
    | (cases u <;> first
        | exact wpAny_pure hQ
        | (refine wpAny_bind (wpAny_load ho ?_)
           rw [hc, hd]
           show wpAny M A (if (["enumerate", "zip", "dict_itemiterator", "dict_reverseitemiterator", "odict_iterator", "itertools.zip_longest", "itertools.pairwise"].contains n && vs[0]? == some (rawInt _)) = true then _ else _) Q E s
           rw [if_neg (by intro h; rw [hn, Bool.false_and] at h; cases h)]
           exact wpAny_pure hQ))
def Itl (K : PySem.W.Frag) (a : Addr) : It :=
  ⟨fun i H => ∃ xs x, SqL K H a xs ∧ xs[i]? = some x, fun i H x H' => H' = H ∧ ∀ xs, SqL K H a xs → xs[i]? = some x, fun i H => ∃ xs, SqL K H a xs ∧ xs.length ≤ i⟩
def Itr (lo : Int) (n : Nat) : It := ⟨fun i _ => i < n, fun i H x H' => H' = H ∧ x = .int (lo + i), fun i _ => n ≤ i⟩
theorem turn_list {P : Program} {w : World} {K : PySem.W.Frag} {tg : Expr} (a it : Addr) : Turn P w K tg (Itl K a) [it] it (fun i h => h.IsListIter it a i) where
  mem := by simp
  obj := fun i h st b hb => by
    have e : b = it := by simpa using hb
    subst e
    obtain ⟨o, e, c, d⟩ := st
    exact ⟨o, e, fun v z => by rw [d] at z; cases z⟩
  keep := fun i h h' st k => st.at fun o e => k it (by simp) o e
  item := by
    intro X hP hw hK hc i pins s σ H E I hf st hg
    subst hP hw hK
    obtain ⟨xs, x, hq, hx⟩ := hg
    obtain ⟨its, rv, p, hz⟩ := I.list hq
    obtain ⟨u, hu, ru⟩ := rv.get hx
    obtain ⟨f0, f1, f2, f3, f4, f5⟩ := hf it (by simp)
    refine wpAny_pyNext_list_item st p.isList (x := u) (by simpa using hu) fun h' st' sb => ?_
    have I1 : Inv X pins σ H { s with heap := h' } := I.turned (t' := s.toks) (fun b o hb e => (sb.2 b hb).trans e) f0 f1 f3 f4 f5
    obtain ⟨o, e, c, d⟩ := id st'
    exact ⟨u, rfl, go_of (s := { s with heap := h' }) e c d (by decide) ⟨x, H, I1, ru, ⟨rfl, fun ys hy => by rw [I.list_inj hy hq]; exact hx⟩, st', fun b hb => (hf b hb).1⟩⟩
  done := by
    intro X hP hw hK hc i pins s σ H E I hf st hg
    subst hP hw hK
    obtain ⟨xs, hq, hx⟩ := hg
    obtain ⟨its, rv, p, hz⟩ := I.list hq
    obtain ⟨f0, f1, f2, f3, f4, f5⟩ := hf it (by simp)
    have hl := rv.length
    exact wpAny_pyNext_list_end (I.ok.hd hc) st p.isList (by simp; omega) fun h' eb => ⟨rfl, I.turned (t' := s.toks) (fun b o hb e => eb b o hb e) f0 f1 f3 f4 f5⟩
  self := fun _ _ _ _ _ st h => wpAny_pyIter_listiter st h
theorem turn_range {P : Program} {w : World} {K : PySem.W.Frag} {tg : Expr} (it : Addr) (lo : Int) (n : Nat) : Turn P w K tg (Itr lo n) [it] it (fun i h => IsRangeIter h it (lo + (i : Nat) * 1) ((n : Int) - (i : Nat)) 1) where
  mem := by simp
  obj := fun i h st b hb => by
    have e : b = it := by simpa using hb
    subst e
    exact ⟨_, st, fun v z => by
      have z' : Data.fields _ = Data.cell v := z
      cases z'⟩
  keep := fun i h h' st k => k it (by simp) _ st
  item := by
    intro X hP hw hK hc i pins s σ H E I hf st hg
    subst hP hw hK
    obtain ⟨f0, f1, f2, f3, f4, f5⟩ := hf it (by simp)
    have W := Walks.range (prog := X.prog) (w := X.w) (I.ok.hd hc) it lo 1 n
    refine W.item i s _ _ hg st fun v h' tk hv st' kk => ?_
    obtain ⟨t, rfl⟩ := hv
    have I1 : Inv X pins σ H { s with heap := h', toks := tk } := I.turned (fun b o hb e => kk b o (by simpa using hb) e) f0 f1 f3 f4 f5
    refine ⟨_, rfl, go_of (s := { s with heap := h', toks := tk }) (n := "range_iterator") st' rfl rfl (by decide) ⟨.int (lo + i), H, I1, ⟨t, ?_⟩, ⟨rfl, rfl⟩, st', fun b hb => (hf b hb).1⟩⟩
    rw [Int.mul_one]
  done := by
    intro X hP hw hK hc i pins s σ H E I hf st hg
    subst hP hw hK
    obtain ⟨f0, f1, f2, f3, f4, f5⟩ := hf it (by simp)
    exact wpAny_pyNext_range_end (I.ok.hd hc) st (by have : n ≤ i := hg; omega) fun h' eb => ⟨rfl, I.turned (t' := s.toks) (fun b o hb e => eb b o hb e) f0 f1 f3 f4 f5⟩
  self := fun _ _ _ _ _ st h => wpAny_pyIter_rangeiter st h
end L2
namespace L2
open PySem PySem.Spec PyProof.Rows
section
variable {X : Cx} {tg : Expr}
def iList (K : PySem.W.Frag) (tl : TE) : TI := fun σ H R => tl σ H fun x H1 => ∃ a, x = .ref a ∧ (∃ xs, SqL K H1 a xs) ∧ R (Itl K a) H1
theorem pi_list {l : Expr} {tl : TE} (hl : PE X l tl) : PI X tg l (iList X.K tl) := by
  intro pins s σ H R I h
  refine thn (hl pins s σ H _ I h) fun v s1 ⟨x, H1, I1, r1, q1⟩ => ?_
  obtain ⟨a, e, ⟨xs, hq⟩, q⟩ := q1
  subst e
  cases r1
  obtain ⟨its, rv, p, hz⟩ := I1.list hq
  refine wpAny_pyIter_list p.isList ?_
  refine ⟨s1.heap.objs.size, [s1.heap.objs.size], _, _, H1, rfl, I1.kept (t' := s1.toks) fun b o e => Heap.get?_push_of_some _ e, turn_list a _, ⟨_, Heap.get?_push_size _ rfl, rfl, rfl⟩, fun b hb => ?_, q⟩
  have e : b = s1.heap.objs.size := by simpa using hb
  subst e
  exact I1.fpOk (Nat.le_refl _) (I1.hok.fresh (Nat.le_refl _))
theorem range_it {pins : List (Addr × Obj)} {σ : St} {H : Hp} {s : Shared} {R : It → Hp → Prop} {E : Value → Shared → Prop} {lo hi : Int} {t u v : Tok} {tk : Nat} (I : Inv X pins σ H s) (h1 : -(2 ^ 62) ≤ lo) (h2 : lo < 2 ^ 62) (h3 : -(2 ^ 62) ≤ hi) (h4 : hi < 2 ^ 62)
    (q : R (Itr lo (hi - lo).toNat) H) : wpAny (model X.prog X.w) X.A (pyIter (.ref s.heap.objs.size)) (PIE X pins σ tg R) E { s with heap := s.heap.push { cls := .type "range", data := .fields #[.int lo t, .int hi u, .int 1 v] }, toks := tk } := by
  refine wpAny_pyIter_range (IsRange.new ..) (small_one h1 h2 h3 h4) ?_
  have I1 : Inv X pins σ H { s with heap := s.heap.push { cls := .type "range", data := .fields #[.int lo t, .int hi u, .int 1 v] }, toks := tk } := I.kept fun b o e => Heap.get?_push_of_some _ e
  refine ⟨(s.heap.push { cls := .type "range", data := .fields #[.int lo t, .int hi u, .int 1 v] }).objs.size, [(s.heap.push { cls := .type "range", data := .fields #[.int lo t, .int hi u, .int 1 v] }).objs.size], _, _, H, rfl,
    I1.kept (t' := tk) fun b o e => Heap.get?_push_of_some _ e, turn_range _ lo (hi - lo).toNat, ?_, fun b hb => ?_, q⟩
  · have e1 : lo + ((0 : Nat) : Int) * 1 = lo := by simp
    have e2 : (((hi - lo).toNat : Nat) : Int) - ((0 : Nat) : Int) = Builtin.Range.rangeSize lo hi 1 := by rw [rangeSize_one]; split <;> omega
    show IsRangeIter _ _ (lo + ((0 : Nat) : Int) * 1) ((((hi - lo).toNat : Nat) : Int) - ((0 : Nat) : Int)) 1
    rw [e1, e2]
    exact Heap.get?_push_size _ rfl
  · have e : b = (s.heap.push { cls := .type "range", data := .fields #[.int lo t, .int hi u, .int 1 v] }).objs.size := by simpa using hb
    subst e
    exact I1.fpOk (Nat.le_refl _) (I1.hok.fresh (Nat.le_refl _))
def iRng1 (ta : TA) : TI := fun σ H R => ta σ H fun vs H1 => ∃ j : Int, vs = [.int j] ∧ -(2 ^ 62) ≤ j ∧ j < 2 ^ 62 ∧ R (Itr 0 j.toNat) H1
def iRng2 (ta : TA) : TI := fun σ H R => ta σ H fun vs H1 => ∃ i j : Int, vs = [.int i, .int j] ∧ (-(2 ^ 62) ≤ i ∧ i < 2 ^ 62 ∧ -(2 ^ 62) ≤ j ∧ j < 2 ^ 62) ∧ R (Itr i (j - i).toNat) H1
theorem pi_range1 {a : Expr} {ta : TA} {p pos : Pos} (hg : Gl X "range") (hm : X.mg "range" = none) (ha : PA X [a] ta) (hs : starEach [a] X.env = [(false, eval a X.env)] := by rfl) : PI X tg (.Call (.Name "range" p) [a] [] pos) (iRng1 ta) := by
  intro pins s σ H R I h
  refine Call_ (ld_blt I hg hm boot_range (PyProof.Rows.callWith_type1 (thn (ha pos pins s σ H _ I h) fun us s1 ⟨vs, H1, I1, r1, q1⟩ => ?_) hs rfl))
  obtain ⟨j, e, q1, q2, q⟩ := q1
  subst e
  cases r1 with
  | cons r rr =>
    cases rr
    obtain ⟨t, rfl⟩ := r
    exact call_range_1 (range_it I1 (by omega) (by omega) q1 q2 (by simpa using q))
theorem pi_range2 {a b : Expr} {ta : TA} {p pos : Pos} (hg : Gl X "range") (hm : X.mg "range" = none) (ha : PA X [a, b] ta) (hs : starEach [a, b] X.env = [(false, eval a X.env), (false, eval b X.env)] := by rfl) (hs2 : starEach [b] X.env = [(false, eval b X.env)] := by rfl) :
    PI X tg (.Call (.Name "range" p) [a, b] [] pos) (iRng2 ta) := by
  intro pins s σ H R I h
  refine Call_ (ld_blt I hg hm boot_range (PyProof.Rows.callWith_type1 (thn (ha pos pins s σ H _ I h) fun us s1 ⟨vs, H1, I1, r1, q1⟩ => ?_) (by rw [hs, hs2]) (by rw [hs2]; rfl)))
  obtain ⟨i, j, e, ⟨q1, q2, q3, q4⟩, q⟩ := q1
  subst e
  cases r1 with
  | cons r rr =>
    cases rr with
    | cons r' rr =>
      cases rr
      obtain ⟨t, rfl⟩ := r
      obtain ⟨t', rfl⟩ := r'
      exact call_range_2 (range_it I1 q1 q2 q3 q4 q)
def tFor (wi : TI) (g : TG) (tb : TS) : TS := fun D σ H => wi σ H fun J H1 => ∃ W : Nat → Nat → St → Hp → Prop, (∃ m, W 0 m σ H1) ∧ ∀ i m σ H, W i m σ H →
  (J.stop i H ∧ D.nx σ H) ∨ (J.go i H ∧ ∃ N : St → Hp → Prop, (∀ σ' H', N σ' H' → ∃ m', m' < m ∧ W (i + 1) m' σ' H') ∧ ∀ x H', J.yld i H x H' → g x σ H' fun σ2 H2 => tb { D with nx := N, ct := N, bk := D.nx } σ2 H2)
def pinsAt (fp : List Addr) (h : Heap) : List (Addr × Obj) := fp.filterMap fun b => (h.get? b).map fun o => (b, o)
theorem mem_pinsAt {fp : List Addr} {h : Heap} {b : Addr} {o : Obj} (hb : b ∈ fp) (e : h.get? b = some o) : (b, o) ∈ pinsAt fp h := List.mem_filterMap.mpr ⟨b, hb, by rw [e]; rfl⟩
theorem of_pinsAt {fp : List Addr} {h : Heap} {p : Addr × Obj} (hp : p ∈ pinsAt fp h) : p.1 ∈ fp ∧ h.get? p.1 = some p.2 := by
  obtain ⟨b, hb, e⟩ := List.mem_filterMap.mp hp
  cases q : h.get? b with
  | none => rw [q] at e; cases e
  | some o =>
    rw [q] at e
    have e' : (b, o) = p := Option.some.inj e
    subst e'
    exact ⟨hb, q⟩
theorem Inv.pinned {pins : List (Addr × Obj)} {σ : St} {H : Hp} {s : Shared} {fp : List Addr} (I : Inv X pins σ H s) (hf : ∀ b ∈ fp, FpOk X pins H b) (ho : ∀ b ∈ fp, ∃ o, s.heap.get? b = some o ∧ ∀ v, o.data ≠ .cell v) : Inv X (pins ++ pinsAt fp s.heap) σ H s :=
  I.pins_of fun p hp => (List.mem_append.mp hp).elim (fun z => I.pin p (List.mem_append_right _ z)) fun z => by
    obtain ⟨hb, e⟩ := of_pinsAt z
    obtain ⟨f0, f1, f2, _⟩ := hf p.1 hb
    obtain ⟨o, e', d⟩ := ho p.1 hb
    rw [e] at e'; cases e'
    exact ⟨e, f0, f1, f2, d⟩
theorem Inv.unpinned {pins pl : List (Addr × Obj)} {σ : St} {H : Hp} {s : Shared} (I : Inv X (pins ++ pl) σ H s) : Inv X pins σ H s := I.pins_of fun p hp => I.pin p (List.mem_append_right _ (List.mem_append_left _ hp))
theorem ps_for {iter : Expr} {body : List Stmt} {wi : TI} {g : TG} {tb : TS} {pos : Pos} (hp : PassesOwn (model X.prog X.w) X.A X.env X.xe) (hc : X.calm = true) (hi : PI X tg iter wi) (hg : PG X tg g) (hb : PSs X body tb)
    (hs : ∀ x, foldedSetIterable iter X.env x = pure x := by intro _; rfl) : PS X (.For tg iter body [] pos) (tFor wi g tb) := by
  intro pins s σ H D I h
  refine wpAny_For (thn (hi pins s σ H _ I h) fun v s1 h1 => thn h1 fun itv s2 h2 => ?_) hs
  obtain ⟨it, fp, tn, J, H2, e, I2, T, st2, f2, W, ⟨m0, w0⟩, turn⟩ := h2
  subst e
  -- what stays true of the iterator's objects through the loop
  have stat : ∀ {H' : Hp}, (∀ b ∈ fp, H' b = none) → ∀ b ∈ fp, FpOk X pins H' b := fun hn b hb => ⟨hn b hb, (f2 b hb).2⟩
  refine codeAny_forLoop_any (fun n s' => ∃ i σ' H', Inv X pins σ' H' s' ∧ tn i s'.heap ∧ (∀ b ∈ fp, H' b = none) ∧ W i n σ' H') ?_ m0 ⟨0, σ, H2, I2, st2, fun b hb => (f2 b hb).1, w0⟩
  rintro n s3 ⟨i, σ3, H3, I3, st3, fr3, w3⟩
  rcases turn i n σ3 H3 w3 with ⟨stop, qn⟩ | ⟨go, N, hN, step⟩
  · refine wpAny_passesOwn hp (thn (T.done X rfl rfl rfl hc i pins s3 σ3 H3 X.xe I3 (stat fr3) st3 stop) fun r s4 ⟨hr, I4⟩ => ?_)
    subst hr
    exact wpAny_execs_nil ⟨σ3, H3, I4, qn⟩
  · refine wpAny_passesOwn hp (thn (T.item X rfl rfl rfl hc i pins s3 σ3 H3 X.xe I3 (stat fr3) st3 go) fun r s4 ⟨u, hr, h4⟩ => ?_)
    subst hr
    refine wpAny_passesOwn hp (thn h4 fun _ s5 ⟨x, H5, I5, r5, y5, st5, fr5⟩ => ?_)
    have I5' := I5.pinned (stat fr5) (T.obj _ _ st5)
    refine wpAny_passesOwn hp (thn (hg _ s5 σ3 H5 x u _ I5' r5 (step x H5 y5)) fun _ s6 ⟨σ6, H6, I6, q6⟩ => ?_)
    refine wpAny_passesOwn hp (thn (hb _ s6 σ6 H6 _ I6 q6) fun f s7 q7 => ?_)
    have again : ∀ {σ7 : St} {H7 : Hp}, Inv X (pins ++ pinsAt fp s5.heap) σ7 H7 s7 → N σ7 H7 → ∃ m, m < n ∧ ∃ i σ' H', Inv X pins σ' H' s7 ∧ tn i s7.heap ∧ (∀ b ∈ fp, H' b = none) ∧ W i m σ' H' := fun {σ7 H7} I7 n7 => by
      obtain ⟨m', hm, w7⟩ := hN σ7 H7 n7
      refine ⟨m', hm, i + 1, σ7, H7, I7.unpinned, T.keep _ _ _ st5 fun b hb o e => (I7.pin (b, o) (List.mem_append_right _ (List.mem_append_right _ (mem_pinsAt hb e)))).1, fun b hb => ?_, w7⟩
      obtain ⟨o, e, d⟩ := T.obj _ _ st5 b hb
      exact (I7.pin (b, o) (List.mem_append_right _ (List.mem_append_right _ (mem_pinsAt hb e)))).2.1
    cases f with
    | next => obtain ⟨σ7, H7, I7, n7⟩ := q7; exact again I7 n7
    | cont => obtain ⟨σ7, H7, I7, n7⟩ := q7; exact again I7 n7
    | brk => obtain ⟨σ7, H7, I7, q7⟩ := q7; exact ⟨σ7, H7, I7.unpinned, q7⟩
    | ret v => obtain ⟨x7, σ7, H7, I7, r7, q7⟩ := q7; exact ⟨x7, σ7, H7, I7.unpinned, r7, q7⟩
end
theorem for_list {K : PySem.W.Frag} {a : Addr} {xs : List V} {g : TG} {tb : TS} {D : Ends} {σ : St} {H : Hp} (Pv : Nat → St → Hp → Prop) (h0 : Pv 0 σ H) (hl : ∀ i σ H, i ≤ xs.length → Pv i σ H → SqL K H a xs)
    (hs : ∀ i x σ H, xs[i]? = some x → Pv i σ H → g x σ H fun σ2 H2 => tb { D with nx := Pv (i + 1), ct := Pv (i + 1), bk := D.nx } σ2 H2) (hd : ∀ σ H, Pv xs.length σ H → D.nx σ H) :
    ∃ W : Nat → Nat → St → Hp → Prop, (∃ m, W 0 m σ H) ∧ ∀ i m σ H, W i m σ H →
      ((Itl K a).stop i H ∧ D.nx σ H) ∨ ((Itl K a).go i H ∧ ∃ N : St → Hp → Prop, (∀ σ' H', N σ' H' → ∃ m', m' < m ∧ W (i + 1) m' σ' H') ∧ ∀ x H', (Itl K a).yld i H x H' → g x σ H' fun σ2 H2 => tb { D with nx := N, ct := N, bk := D.nx } σ2 H2) := by
  refine ⟨fun i m σ H => m = xs.length - i ∧ i ≤ xs.length ∧ Pv i σ H, ⟨xs.length, by simp, Nat.zero_le _, h0⟩, ?_⟩
  rintro i m σ H ⟨rfl, hi, p⟩
  have q := hl i σ H hi p
  by_cases hlt : i < xs.length
  · refine .inr ⟨⟨xs, xs[i], q, by simp [hlt]⟩, Pv (i + 1), fun σ' H' p' => ⟨xs.length - (i + 1), by omega, rfl, hlt, p'⟩, fun x H' y => ?_⟩
    obtain ⟨e, y⟩ := y
    subst e
    exact hs i x σ _ (y xs q) p
  · have e : i = xs.length := by omega
    subst e
    exact .inl ⟨⟨xs, q, Nat.le_refl _⟩, hd σ H p⟩
theorem for_range {lo : Int} {n : Nat} {g : TG} {tb : TS} {D : Ends} {σ : St} {H : Hp} (Pv : Nat → St → Hp → Prop) (h0 : Pv 0 σ H)
    (hs : ∀ i σ H, i < n → Pv i σ H → g (.int (lo + i)) σ H fun σ2 H2 => tb { D with nx := Pv (i + 1), ct := Pv (i + 1), bk := D.nx } σ2 H2) (hd : ∀ σ H, Pv n σ H → D.nx σ H) :
    ∃ W : Nat → Nat → St → Hp → Prop, (∃ m, W 0 m σ H) ∧ ∀ i m σ H, W i m σ H →
      ((Itr lo n).stop i H ∧ D.nx σ H) ∨ ((Itr lo n).go i H ∧ ∃ N : St → Hp → Prop, (∀ σ' H', N σ' H' → ∃ m', m' < m ∧ W (i + 1) m' σ' H') ∧ ∀ x H', (Itr lo n).yld i H x H' → g x σ H' fun σ2 H2 => tb { D with nx := N, ct := N, bk := D.nx } σ2 H2) := by
  refine ⟨fun i m σ H => m = n - i ∧ i ≤ n ∧ Pv i σ H, ⟨n, by simp, Nat.zero_le _, h0⟩, ?_⟩
  rintro i m σ H ⟨rfl, hi, p⟩
  by_cases hlt : i < n
  · refine .inr ⟨hlt, Pv (i + 1), fun σ' H' p' => ⟨n - (i + 1), by omega, rfl, hlt, p'⟩, fun x H' y => ?_⟩
    obtain ⟨e, y⟩ := y
    subst e y
    exact hs i σ _ hlt p
  · have e : i = n := by omega
    subst e
    exact .inl ⟨Nat.le_refl _, hd σ H p⟩
end L2
namespace L2
open PySem PySem.Spec PyProof.Rows
abbrev R2 := V → V → Hp → VK → Prop
def OpR (X : Cx) (f : Value → Value → Sem Value) (r : R2) : Prop :=
  ∀ (pins : List (Addr × Obj)) (s : Shared) (σ : St) (H : Hp) (x y : V) (v u : Value) (Q : VK), Inv X pins σ H s → RelV x v → RelV y u → r x y H Q →
    wpAny (model X.prog X.w) X.A (f v u) (EP X pins σ Q) X.xe s
def UnR (X : Cx) (f : Value → Sem Value) (r : V → Hp → VK → Prop) : Prop :=
  ∀ (pins : List (Addr × Obj)) (s : Shared) (σ : St) (H : Hp) (x : V) (v : Value) (Q : VK), Inv X pins σ H s → RelV x v → r x H Q →
    wpAny (model X.prog X.w) X.A (f v) (EP X pins σ Q) X.xe s
def CallR (X : Cx) (f : Value) (r : List V → Hp → VK → Prop) : Prop :=
  ∀ (pins : List (Addr × Obj)) (s : Shared) (σ : St) (H : Hp) (xs : List V) (us : List Value) (Q : VK), Inv X pins σ H s → Vals xs us → r xs H Q →
    wpAny (model X.prog X.w) X.A (call f us) (EP X pins σ Q) X.xe s
def tOp (r : R2) (ta tb : TE) : TE := fun σ H Q => ta σ H fun x H1 => tb σ H1 fun y H2 => r x y H2 Q
def tUn (r : V → Hp → VK → Prop) (ta : TE) : TE := fun σ H Q => ta σ H fun x H1 => r x H1 Q
def rI (C : Int → Int → Prop) (g : Int → Int → V) : R2 := fun x y H Q => ∃ i j, x = .int i ∧ y = .int j ∧ C i j ∧ Q (g i j) H
def rI0 (g : Int → Int → V) : R2 := fun x y H Q => ∃ i j, x = .int i ∧ y = .int j ∧ Q (g i j) H
def rU (g : Int → V) : V → Hp → VK → Prop := fun x H Q => ∃ i, x = .int i ∧ Q (g i) H
section
variable {X : Cx} {a b c : Expr} {ta tb tc : TE} {pos : Pos}
theorem binT (ha : PE X a ta) (hb : PE X b tb) {pins : List (Addr × Obj)} {s : Shared} {σ : St} {H : Hp} {R : V → V → Hp → Prop} (I : Inv X pins σ H s)
    (h : ta σ H fun x H1 => tb σ H1 fun y H2 => R x y H2) {Q : Value → Shared → Prop} {f : Value → Value → Sem Value}
    (hf : ∀ v u s2 x y H2, Inv X pins σ H2 s2 → RelV x v → RelV y u → R x y H2 → wpAny (model X.prog X.w) X.A (f v u) Q X.xe s2) :
    wpAny (model X.prog X.w) X.A (eval a X.env) (fun v s₁ => wpAny (model X.prog X.w) X.A (eval b X.env) (fun u s₂ => wpAny (model X.prog X.w) X.A (f v u) Q X.xe s₂) X.xe s₁) X.xe s := by
  refine thn (ha pins s σ H _ I h) fun v s1 ⟨x, H1, I1, r1, q1⟩ => ?_
  refine thn (hb pins s1 σ H1 _ I1 q1) fun u s2 ⟨y, H2, I2, r2, q2⟩ => ?_
  exact hf v u s2 x y H2 I2 r1 r2 q2
theorem pe_op {op : Operator} {r : R2} (ho : OpR X (binaryOp op) r) (ha : PE X a ta) (hb : PE X b tb) : PE X (.BinOp a op b pos) (tOp r ta tb) := by
  intro pins s σ H Q I h
  exact wpAny_BinOp (binT ha hb I h fun v u s2 x y H2 I2 rx ry q => ho pins s2 σ H2 x y v u Q I2 rx ry q)
theorem pe_un {op : UnaryOp} {r : V → Hp → VK → Prop} (ho : UnR X (unaryOp op) r) (ha : PE X a ta) : PE X (.UnaryOp op a pos) (tUn r ta) := by
  intro pins s σ H Q I h
  exact UnaryOp_ (thn (ha pins s σ H _ I h) fun v s1 ⟨x, H1, I1, r1, q1⟩ => ho pins s1 σ H1 x v Q I1 r1 q1)
theorem opI {f : Value → Value → Sem Value} {C : Int → Int → Prop} {g : Int → Int → Int}
    (rule : ∀ (i j : Int) (t u : Tok) (s : Shared) (Q : Value → Shared → Prop) (E : Value → Shared → Prop), C i j → Q (.int (g i j) s.toks) { s with toks := s.toks + 1 } → wpAny (model X.prog X.w) X.A (f (.int i t) (.int j u)) Q E s) :
    OpR X f (rI C fun i j => .int (g i j)) := by
  intro pins s σ H x y v u Q I rx ry h
  obtain ⟨i, j, rfl, rfl, hc, q⟩ := h
  obtain ⟨t, rfl⟩ := rx
  obtain ⟨t', rfl⟩ := ry
  exact rule i j t t' s _ _ hc ⟨.int (g i j), H, I.tok _, ⟨_, rfl⟩, q⟩
theorem opI0 {f : Value → Value → Sem Value} {g : Int → Int → Int}
    (rule : ∀ (i j : Int) (t u : Tok) (s : Shared) (Q : Value → Shared → Prop) (E : Value → Shared → Prop), Q (.int (g i j) s.toks) { s with toks := s.toks + 1 } → wpAny (model X.prog X.w) X.A (f (.int i t) (.int j u)) Q E s) :
    OpR X f (rI0 fun i j => .int (g i j)) := by
  intro pins s σ H x y v u Q I rx ry h
  obtain ⟨i, j, rfl, rfl, q⟩ := h
  obtain ⟨t, rfl⟩ := rx
  obtain ⟨t', rfl⟩ := ry
  exact rule i j t t' s _ _ ⟨.int (g i j), H, I.tok _, ⟨_, rfl⟩, q⟩
theorem opB0 {f : Value → Value → Sem Value} {g : Int → Int → Bool}
    (rule : ∀ (i j : Int) (t u : Tok) (s : Shared) (Q : Value → Shared → Prop) (E : Value → Shared → Prop), Q (.bool (g i j)) s → wpAny (model X.prog X.w) X.A (f (.int i t) (.int j u)) Q E s) :
    OpR X f (rI0 fun i j => .bl (g i j)) := by
  intro pins s σ H x y v u Q I rx ry h
  obtain ⟨i, j, rfl, rfl, q⟩ := h
  obtain ⟨t, rfl⟩ := rx
  obtain ⟨t', rfl⟩ := ry
  exact rule i j t t' s _ _ ⟨.bl (g i j), H, I, rfl, q⟩
def CDiv (i j : Int) : Prop := 0 < j ∧ j < 1073741824
def CMul (i j : Int) : Prop := (-(2 ^ 64) < i ∧ i < 2 ^ 64) ∨ (-(2 ^ 64) < j ∧ j < 2 ^ 64)
theorem CMul.ok {i j : Int} (h : CMul i j) : IntMulOk i j := by
  rcases h with ⟨h1, h2⟩ | ⟨h1, h2⟩
  · exact .of_left (intBits_le_64 h1 h2)
  · exact .of_right (intBits_le_64 h1 h2)
theorem op_add : OpR X (binaryOp .Add) (rI0 fun i j => .int (i + j)) := opI0 fun _ _ _ _ _ _ _ q => add_int q
theorem op_sub : OpR X (binaryOp .Sub) (rI0 fun i j => .int (i - j)) := opI0 fun _ _ _ _ _ _ _ q => sub_int q
theorem op_mul : OpR X (binaryOp .Mult) (rI CMul fun i j => .int (i * j)) := opI fun _ _ _ _ _ _ _ hc q => mul_int q hc.ok
theorem op_fdiv : OpR X (binaryOp .FloorDiv) (rI CDiv fun i j => .int (i / j)) := opI fun i j _ _ _ _ _ hc q => by
  have h1 : (0 : Int) < j := hc.1
  have h2 : j < 1073741824 := hc.2
  exact floordiv_int (by omega) (by rw [Int.fdiv_eq_ediv_of_nonneg i (by omega)]; exact q) (.inl (PyProof.noPylong_small (by omega)))
theorem op_mod : OpR X (binaryOp .Mod) (rI (fun _ j => 0 < j) fun i j => .int (i % j)) := opI fun i j _ _ _ _ _ hc q => by
  have h1 : (0 : Int) < j := hc
  exact mod_int' (by omega) (by rw [Int.fmod_eq_emod_of_nonneg i (by omega)]; exact q)
theorem unI {f : Value → Sem Value} {g : Int → Int}
    (rule : ∀ (i : Int) (t : Tok) (s : Shared) (Q : Value → Shared → Prop) (E : Value → Shared → Prop), Q (.int (g i) s.toks) { s with toks := s.toks + 1 } → wpAny (model X.prog X.w) X.A (f (.int i t)) Q E s) :
    UnR X f (rU fun i => .int (g i)) := by
  intro pins s σ H x v Q I rx h
  obtain ⟨i, rfl, q⟩ := h
  obtain ⟨t, rfl⟩ := rx
  exact rule i t s _ _ ⟨.int (g i), H, I.tok _, ⟨_, rfl⟩, q⟩
theorem un_neg : UnR X (unaryOp .USub) (rU fun i => .int (-i)) := unI fun _ _ _ _ _ q => neg_int q
end
def scal : V → V → Bool
  | .non, .non => true | .non, .int _ => true | .int _, .non => true | .non, .bl _ => true | .bl _, .non => true | .non, .str _ => true | .str _, .non => true
  | .int _, .int _ => true | .bl _, .bl _ => true | .str _, .str _ => true | .byt _, .byt _ => true
  | .int _, .str _ => true | .str _, .int _ => true | .bl _, .str _ => true | .str _, .bl _ => true
  | _, _ => false
def rEq : R2 := fun x y H Q => scal x y = true ∧ Q (.bl (decide (x = y))) H
def rNe : R2 := fun x y H Q => scal x y = true ∧ Q (.bl (!decide (x = y))) H
theorem dec_int {i j : Int} : decide (V.int i = V.int j) = (i == j) := by
  rw [Bool.eq_iff_iff]
  simp
theorem dec_bl {i j : Bool} : decide (V.bl i = V.bl j) = (i == j) := by
  rw [Bool.eq_iff_iff]
  simp
theorem dec_str {i j : Str} : decide (V.str i = V.str j) = (i == j) := by
  rw [Bool.eq_iff_iff]
  simp
theorem dec_byt {i j : Array UInt8} : decide (V.byt i = V.byt j) = (i.toList == j.toList) := by
  rw [Bool.eq_iff_iff]
  cases i
  cases j
  simp
section
variable {X : Cx} {a b c : Expr} {ta tb tc : TE} {pos : Pos}
theorem fin_bl {pins : List (Addr × Obj)} {σ : St} {H : Hp} {s : Shared} {Q : VK} {k k' : Bool} (I : Inv X pins σ H s) (q : Q (.bl k) H) (e : k = k') : EP X pins σ Q (.bool k') s := by
  subst e
  exact ⟨.bl k, H, I, rfl, q⟩
theorem op_eq : OpR X (compareOp .Eq) rEq := by
  intro pins s σ H x y v u Q I rx ry h
  obtain ⟨hs, q⟩ := h
  cases x with
  | non =>
    cases rx
    cases y with
    | non => cases ry; exact PySem.EqNone.eq_none_none (fin_bl I q (by simp))
    | bl j => cases ry; exact PySem.EqNone.eq_none_bool (fin_bl I q (by simp))
    | int j => obtain ⟨t', rfl⟩ := ry; exact PySem.EqNone.eq_none_int (fin_bl I q (by simp))
    | str j => obtain ⟨t', rfl⟩ := ry; exact PySem.EqNone.eq_none_str (fin_bl I q (by simp))
    | _ => exact absurd (show false = true from hs) Bool.false_ne_true
  | bl i =>
    cases rx
    cases y with
    | non => cases ry; exact PySem.EqNone.eq_bool_none (fin_bl I q (by simp))
    | bl j => cases ry; exact eq_bool (fin_bl I q dec_bl)
    | str j => obtain ⟨t', rfl⟩ := ry; exact PySem.EqMixed.eq_bool_str (fin_bl I q (by simp))
    | _ => exact absurd (show false = true from hs) Bool.false_ne_true
  | int i =>
    obtain ⟨t, rfl⟩ := rx
    cases y with
    | non => cases ry; exact PySem.EqNone.eq_int_none (fin_bl I q (by simp))
    | int j => obtain ⟨t', rfl⟩ := ry; exact eq_int (fin_bl I q dec_int)
    | str j => obtain ⟨t', rfl⟩ := ry; exact PySem.EqMixed.eq_int_str (fin_bl I q (by simp))
    | _ => exact absurd (show false = true from hs) Bool.false_ne_true
  | str i =>
    obtain ⟨t, rfl⟩ := rx
    cases y with
    | non => cases ry; exact PySem.EqNone.eq_str_none (fin_bl I q (by simp))
    | bl j => cases ry; exact PySem.EqMixed.eq_str_bool (fin_bl I q (by simp))
    | int j => obtain ⟨t', rfl⟩ := ry; exact PySem.EqMixed.eq_str_int (fin_bl I q (by simp))
    | str j => obtain ⟨t', rfl⟩ := ry; exact eq_str (fin_bl I q dec_str)
    | _ => exact absurd (show false = true from hs) Bool.false_ne_true
  | byt i =>
    obtain ⟨t, rfl⟩ := rx
    cases y with
    | byt j => obtain ⟨t', rfl⟩ := ry; exact PySem.W.eq_bytes (fin_bl I q dec_byt)
    | _ => exact absurd (show false = true from hs) Bool.false_ne_true
  | _ => cases y <;> exact absurd (show false = true from hs) Bool.false_ne_true
theorem op_ne : OpR X (compareOp .NotEq) rNe := by
  intro pins s σ H x y v u Q I rx ry h
  obtain ⟨hs, q⟩ := h
  cases x with
  | non =>
    cases rx
    cases y with
    | non => cases ry; exact PySem.EqNone.ne_none_none (fin_bl I q (by simp))
    | bl j => cases ry; exact PySem.EqNone.ne_none_bool (fin_bl I q (by simp))
    | int j => obtain ⟨t', rfl⟩ := ry; exact PySem.EqNone.ne_none_int (fin_bl I q (by simp))
    | str j => obtain ⟨t', rfl⟩ := ry; exact PySem.EqNone.ne_none_str (fin_bl I q (by simp))
    | _ => exact absurd (show false = true from hs) Bool.false_ne_true
  | bl i =>
    cases rx
    cases y with
    | non => cases ry; exact PySem.EqNone.ne_bool_none (fin_bl I q (by simp))
    | bl j => cases ry; exact ne_bool (fin_bl I q (congrArg not dec_bl))
    | str j => obtain ⟨t', rfl⟩ := ry; exact PySem.EqMixed.ne_bool_str (fin_bl I q (by simp))
    | _ => exact absurd (show false = true from hs) Bool.false_ne_true
  | int i =>
    obtain ⟨t, rfl⟩ := rx
    cases y with
    | non => cases ry; exact PySem.EqNone.ne_int_none (fin_bl I q (by simp))
    | int j => obtain ⟨t', rfl⟩ := ry; exact ne_int (fin_bl I q (congrArg not dec_int))
    | str j => obtain ⟨t', rfl⟩ := ry; exact PySem.EqMixed.ne_int_str (fin_bl I q (by simp))
    | _ => exact absurd (show false = true from hs) Bool.false_ne_true
  | str i =>
    obtain ⟨t, rfl⟩ := rx
    cases y with
    | non => cases ry; exact PySem.EqNone.ne_str_none (fin_bl I q (by simp))
    | bl j => cases ry; exact PySem.EqMixed.ne_str_bool (fin_bl I q (by simp))
    | int j => obtain ⟨t', rfl⟩ := ry; exact PySem.EqMixed.ne_str_int (fin_bl I q (by simp))
    | str j => obtain ⟨t', rfl⟩ := ry; exact ne_str (fin_bl I q (congrArg not dec_str))
    | _ => exact absurd (show false = true from hs) Bool.false_ne_true
  | byt i =>
    obtain ⟨t, rfl⟩ := rx
    cases y with
    | byt j => obtain ⟨t', rfl⟩ := ry; exact PySem.W.ne_bytes (fin_bl I q (congrArg not dec_byt))
    | _ => exact absurd (show false = true from hs) Bool.false_ne_true
  | _ => cases y <;> exact absurd (show false = true from hs) Bool.false_ne_true
theorem op_lt : OpR X (compareOp .Lt) (rI0 fun i j => .bl (decide (i < j))) := opB0 fun _ _ _ _ _ _ _ q => lt_int q
theorem op_le : OpR X (compareOp .LtE) (rI0 fun i j => .bl (decide (i ≤ j))) := opB0 fun _ _ _ _ _ _ _ q => le_int q
theorem op_gt : OpR X (compareOp .Gt) (rI0 fun i j => .bl (decide (j < i))) := opB0 fun _ _ _ _ _ _ _ q => gt_int q
theorem OpR.or {f : Value → Value → Sem Value} {r r' : R2} (h : OpR X f r) (h' : OpR X f r') : OpR X f (fun x y H Q => r x y H Q ∨ r' x y H Q) := by
  intro pins s σ H x y v u Q I rx ry q
  rcases q with q | q
  · exact h pins s σ H x y v u Q I rx ry q
  · exact h' pins s σ H x y v u Q I rx ry q
theorem nomark (b : Expr) {op : CmpOp} (h : op ≠ .In := by decide) (h2 : op ≠ .NotIn := by decide) : behindInMarks op b = false := by
  have e1 : (op == CmpOp.In) = false := by cases op <;> first | rfl | exact absurd rfl h
  have e2 : (op == CmpOp.NotIn) = false := by cases op <;> first | rfl | exact absurd rfl h2
  cases b <;> simp [behindInMarks, e1, e2]
theorem pe_cmpR {op : CmpOp} {r : R2} (ho : OpR X (compareOp op) r) (ha : PE X a ta) (hb : PE X b tb) (hm : behindInMarks op b = false) : PE X (.Compare a [op] [b] pos) (tOp r ta tb) := by
  intro pins s σ H Q I h
  exact wpAny_Compare1 (binT ha hb I h fun v u s2 x y H2 I2 rx ry q => ho pins s2 σ H2 x y v u Q I2 rx ry q) hm
def tTest (t : TE) : TT := fun σ H Q => t σ H fun x H' => ∃ k, x = .bl k ∧ Q k H'
theorem pt_cmpR {op : CmpOp} {r : R2} (ho : OpR X (compareOp op) r) (ha : PE X a ta) (hb : PE X b tb) (hm : behindInMarks op b = false) : PT X (.Compare a [op] [b] pos) (tTest (tOp r ta tb)) := by
  intro pins s σ H Q I h
  refine wpAny_isTrue_Compare1 (thn (ha pins s σ H _ I h) fun v s1 ⟨x, H1, I1, r1, q1⟩ => thn (hb pins s1 σ H1 _ I1 q1) fun u s2 ⟨y, H2, I2, r2, q2⟩ =>
    thn (ho pins s2 σ H2 x y v u _ I2 r1 r2 q2) fun c s3 ⟨z, H3, I3, r3, k, e, q3⟩ => ?_) hm
  subst e
  cases r3
  exact wpAny_truthy_bool ⟨H3, I3, q3⟩
def tChain (r r' : R2) (ta tb tc : TE) : TE := fun σ H Q => ta σ H fun x H1 => tb σ H1 fun y H2 => r x y H2 fun z H3 => ∃ k, z = .bl k ∧
  (if k = true then tc σ H3 fun w' H4 => r' y w' H4 Q else Q (.bl false) H3)
theorem pe_chain {op op' : CmpOp} {r r' : R2} (ho : OpR X (compareOp op) r) (ho' : OpR X (compareOp op') r') (ha : PE X a ta) (hb : PE X b tb) (hc : PE X c tc)
    (hm : lastMarks [op, op'] [b, c] = false := by with_unfolding_all rfl) : PE X (.Compare a [op, op'] [b, c] pos) (tChain r r' ta tb tc) := by
  intro pins s σ H Q I h
  refine Compare_chain (thn (ha pins s σ H _ I h) fun v s1 ⟨x, H1, I1, r1, q1⟩ => chain_link (thn (hb pins s1 σ H1 _ I1 q1) fun u s2 ⟨y, H2, I2, r2, q2⟩ =>
    thn (ho pins s2 σ H2 x y v u _ I2 r1 r2 q2) fun d s3 ⟨z, H3, I3, r3, k, e, q3⟩ => ?_)) hm
  subst e
  cases r3
  refine wpAny_truthy_bool ?_
  cases k with
  | false => exact ite_ff ⟨.bl false, H3, I3, rfl, q3⟩
  | true => exact ite_tt (chain_last (thn (hc pins s3 σ H3 _ I3 q3) fun w' s4 ⟨z', H4, I4, r4, q4⟩ => ho' pins s4 σ H4 y z' u w' Q I4 r2 r4 q4))
theorem line63 : (sizeLine : Nat) < 2 ^ 63 := by rw [sizeLine_eq]; decide
theorem vals1 {x : V} {us : List Value} (r : Vals [x] us) : ∃ u, us = [u] ∧ RelV x u := by
  cases r with
  | cons r1 r2 => cases r2; exact ⟨_, rfl, r1⟩
theorem vals2 {x y : V} {us : List Value} (r : Vals [x, y] us) : ∃ u w', us = [u, w'] ∧ RelV x u ∧ RelV y w' := by
  cases r with
  | cons r1 r2 =>
    cases r2 with
    | cons r3 r4 => cases r4; exact ⟨_, _, rfl, r1, r3⟩
theorem call_max2 (hc : X.calm = true) : CallR X (.builtin "max") (fun xs H Q => ∃ i j, xs = [.int i, .int j] ∧ Q (.int (if j > i then j else i)) H) := by
  intro pins s σ H xs us Q I r h
  obtain ⟨i, j, rfl, q⟩ := h
  obtain ⟨u, w', rfl, ⟨t, rfl⟩, ⟨t', rfl⟩⟩ := vals2 r
  refine max_two_ints (I.ok.hd hc) fun h' tk k => ⟨_, H, I.kept k, ?_, q⟩
  by_cases hj : j > i
  · rw [if_pos hj, if_pos hj]; exact ⟨_, rfl⟩
  · rw [if_neg hj, if_neg hj]; exact ⟨_, rfl⟩
theorem call_min2 (hc : X.calm = true) : CallR X (.builtin "min") (fun xs H Q => ∃ i j, xs = [.int i, .int j] ∧ Q (.int (if j < i then j else i)) H) := by
  intro pins s σ H xs us Q I r h
  obtain ⟨i, j, rfl, q⟩ := h
  obtain ⟨u, w', rfl, ⟨t, rfl⟩, ⟨t', rfl⟩⟩ := vals2 r
  refine min_two_ints (I.ok.hd hc) fun h' tk k => ⟨_, H, I.kept k, ?_, q⟩
  by_cases hj : j < i
  · rw [if_pos hj, if_pos hj]; exact ⟨_, rfl⟩
  · rw [if_neg hj, if_neg hj]; exact ⟨_, rfl⟩
end
end L2
namespace L2
open PySem PySem.Spec PyProof.Rows
structure ObjM (h : Heap) (x dx C : Addr) (mA : Str → Option Value) : Prop where
  obj : h.get? x = some (PySem.W.instObj C dx)
  ns : h.Ns1 dx mA
  ne : dx ≠ x
theorem lookIn_ns {h : Heap} {dx : Addr} {mA : Str → Option Value} (n : h.Ns1 dx mA) : ∃ od, h.get? dx = some od ∧ ∀ name, PySem.W.lookIn name od = some (mA name) := by
  obtain ⟨o, es, ep, ho, hd, hk, _, hm⟩ := n
  refine ⟨o, ho, fun name => ?_⟩
  have e := hm name
  unfold nsFind findBy at e
  rw [← Array.find?_toList] at e
  unfold PySem.W.lookIn
  rw [hd]
  dsimp only
  split
  · rename_i y q
    rw [q] at e
    exact congrArg some e
  · rename_i q
    rw [q] at e
    have a : es.toList.any (·.refKey) = false := by
      rw [List.any_eq_false]
      intro y hy
      obtain ⟨z, t, hkey⟩ := hk y (Array.mem_toList_iff.mp hy)
      simp [DictEntry.refKey, hkey]
    have a' : ¬ es.toList.any (·.refKey) = true := by rw [a]; exact Bool.false_ne_true
    rw [if_neg a']
    exact congrArg some e
theorem ObjM.look {h : Heap} {x dx C : Addr} {mA : Str → Option Value} (I : ObjM h x dx C mA) : ∃ od, PySem.W.InstAt h x (PySem.W.instObj C dx) C (some od) ∧ ∀ name, PySem.W.lookIn name od = some (mA name) :=
  let ⟨od, ho, hl⟩ := lookIn_ns I.ns
  ⟨od, ⟨I.obj, rfl, rfl, ho⟩, hl⟩
section
variable {prog : Program} {w : World} {A : Around} {E : Value → Shared → Prop} {s : Shared} {K : PySem.W.Frag} {x dx C f : Addr} {mA : Str → Option Value} {name : Str} {v : Value}
theorem get_map {expr : Bool} {Q : Value → Shared → Prop} (X : K.In s.heap) (I : ObjM s.heap x dx C mA) (hg : PySem.W.plainGet K C name = true) (hh : PySem.W.hasDictIn K C = true)
    (ha : PySem.W.findIn K (.ref C) name = some none) (hv : mA name = some v) (hv' : PySem.W.handedIn v = true) (h : Q v { s with toks := s.toks + 1 }) :
    wpAny (model prog w) A (getAttr (.ref x) name expr) Q E s := by
  obtain ⟨od, J, hl⟩ := I.look
  exact PySem.W.get_value X J (PySem.W.plainGet_of hg).1 (PySem.W.findObj_own hh ha rfl (by rw [hl, hv])) hv' h
theorem get_meth {pl : Sem Bool} {Q : Value × List Value → Shared → Prop} (X : K.In s.heap) (I : ObjM s.heap x dx C mA) (hg : PySem.W.plainGet K C name = true)
    (hf : PySem.W.findIn K (.ref C) name = some (some (.ref f))) (ht : PySem.W.isFn K (.ref f) = true) (hv : mA name = none) (h : Q (.ref f, [.ref x]) s) :
    wpAny (model prog w) A (getMethod (.ref x) name pl) Q E s := by
  obtain ⟨od, J, hl⟩ := I.look
  exact PySem.W.method_fn X J (PySem.W.plainGet_of hg).1 (PySem.W.plainGet_of hg).2 hf (beq_iff_eq.mp ht) (by show (PySem.W.lookIn name od).map (·.isSome) = some false; rw [hl, hv]; rfl) h
theorem set_map {ns : List Str} {Q : Unit → Shared → Prop} (X : K.In s.heap) (I : ObjM s.heap x dx C mA)
    (hs : PySem.W.findIn K (.ref C) "__setattr__" = some (some (.builtin "object.__setattr__"))) (hp : PySem.W.plainOver K C = true) (ht : PySem.W.takerIn K C name = some none) (hh : PySem.W.hasDictIn K C = true)
    (hw : PySem.Within mA ns) (hsz : ns.length ≤ sizeLine)
    (h : ∀ h', ObjM h' x dx C (fun y => if y = name then some v else mA y) → Heap.SameBut dx s.heap h' → Q () { s with heap := h', toks := s.toks + 2 }) :
    wpAny (model prog w) A (setAttr (.ref x) name v) Q E s := by
  obtain ⟨od, J, hl⟩ := I.look
  refine PySem.W.set_plain X J hs (PySem.W.osa_open (s := { s with toks := s.toks + 1 }) (r := none) X J hp ht fun b => ?_)
  obtain ⟨cd, hc, hd'⟩ := PySem.W.any_some hh
  have hx : s.heap.get? x = some ⟨.ref C, some dx, .plain, #[]⟩ := I.obj
  refine wpAny_bind (wpAny_pure (wpAny_bind (wpAny_bind (wpAny_loadPart hx (wpAny_bind (PySem.W.Looks.here (s := { s with toks := s.toks + 1 }) (PySem.W.looks_clsIn X hc) ?_))))))
  rw [hd']
  refine wpAny_pure (a := some dx) (wpAny_bind (wpAny_pure (wpAny_bind ?_)))
  refine wpAny_nsSet1 (s := { s with toks := s.toks + 1 }) I.ns fun h' hn2 hs2 => ?_
  obtain ⟨oD, esD, epD, hoD, hdD, hcD⟩ := hn2.count (PySem.Within.cons name v hw)
  refine wpAny_bind (wpAny_lookBehind hoD (by rw [hdD]; exact pastItsLine_dict (Nat.le_trans hcD (by rw [List.length_cons]; omega))) ?_)
  exact wpAny_pure (h _ ⟨(hs2.2 _ (Ne.symm I.ne)).trans I.obj, hn2, I.ne⟩ hs2)
theorem make_map {R : Result → Shared → Prop} {vs : List Value} {kw : List (Str × Value)} (X : K.In s.heap) (hm : PySem.W.makesIn K C = true)
    (hi : PySem.W.findIn K (.ref C) "__init__" = some (some (.ref f))) (hf : PySem.W.typeIn K (.ref f) = some (.type "function"))
    (h : codeAny (model prog w) (A.under (.builtin "type.__call__" ⟨.ref C :: vs, kw⟩)) (.call (.ref f) ⟨.ref (s.heap.objs.size + 1) :: vs, kw⟩) (PySem.W.InitBack (s.heap.objs.size + 1) R)
      { s with heap := (s.heap.push PySem.W.emptyDict).push (PySem.W.instObj C s.heap.objs.size) }) :
    codeAny (model prog w) A (.call (.ref C) ⟨vs, kw⟩) R s := by
  obtain ⟨hh, g, d, t, os⟩ := s
  exact PySem.W.make_core (PySem.W.makes_of X hm) (PySem.W.looks_findIn X hi) (fun self => PySem.W.bind_fn X self hf) (.inl rfl) h
end
def putF (f : Str) (v : V) : List (Str × V) → List (Str × V)
  | [] => [(f, v)]
  | (g, x) :: r => if g = f then (g, v) :: r else (g, x) :: putF f v r
theorem lookup_putF (f g : Str) (v : V) : ∀ fs : List (Str × V), (putF f v fs).lookup g = if g = f then some v else fs.lookup g
  | [] => by
    show List.lookup g [(f, v)] = _
    by_cases h : g = f
    · have hb : (g == f) = true := beq_iff_eq.mpr h
      simp only [List.lookup, hb, if_pos h]
    · have hb : (g == f) = false := beq_eq_false_iff_ne.mpr h
      simp only [List.lookup, hb, if_neg h]
  | (k, x) :: r => by
    have ih := lookup_putF f g v r
    rw [show putF f v ((k, x) :: r) = (if k = f then (k, v) :: r else (k, x) :: putF f v r) from rfl]
    by_cases hk : k = f
    · rw [if_pos hk]
      by_cases h : g = k
      · have hb : (g == k) = true := beq_iff_eq.mpr h
        simp only [List.lookup, hb, if_pos (h.trans hk)]
      · have hb : (g == k) = false := beq_eq_false_iff_ne.mpr h
        simp only [List.lookup, hb, if_neg (fun e : g = f => h (e.trans hk.symm))]
    · rw [if_neg hk]
      by_cases h : g = k
      · have hb : (g == k) = true := beq_iff_eq.mpr h
        simp only [List.lookup, hb, if_neg (fun e : g = f => hk (h.symm.trans e))]
      · have hb : (g == k) = false := beq_eq_false_iff_ne.mpr h
        simp only [List.lookup, hb]
        exact ih
theorem keys_putF (f : Str) (v : V) : ∀ fs : List (Str × V), f ∈ (putF f v fs).map (·.1) ∧ ∀ g, g ∈ fs.map (·.1) → g ∈ (putF f v fs).map (·.1)
  | [] => ⟨by simp [putF], fun g h => by simp at h⟩
  | (k, x) :: r => by
    obtain ⟨i1, i2⟩ := keys_putF f v r
    rw [show putF f v ((k, x) :: r) = (if k = f then (k, v) :: r else (k, x) :: putF f v r) from rfl]
    by_cases hk : k = f
    · rw [if_pos hk]
      subst hk
      exact ⟨by simp, fun g h => by simpa using h⟩
    · rw [if_neg hk]
      refine ⟨?_, fun g h => ?_⟩
      · rw [List.map_cons]
        exact List.mem_cons_of_mem _ i1
      · rw [List.map_cons] at h ⊢
        rcases List.mem_cons.mp h with e | e
        · exact List.mem_cons.mpr (.inl e)
        · exact List.mem_cons_of_mem _ (i2 g e)
theorem length_putF (f : Str) (v : V) : ∀ fs : List (Str × V), (putF f v fs).length ≤ fs.length + 1
  | [] => by simp [putF]
  | (k, x) :: r => by
    have ih := length_putF f v r
    rw [show putF f v ((k, x) :: r) = (if k = f then (k, v) :: r else (k, x) :: putF f v r) from rfl]
    by_cases hk : k = f
    · rw [if_pos hk, List.length_cons, List.length_cons]; omega
    · rw [if_neg hk, List.length_cons, List.length_cons]; omega
theorem RelO.some_of {v : V} {o : Option Value} (r : RelO (some v) o) : ∃ u, o = some u ∧ RelV v u := by
  cases o with
  | none => exact (show False from r).elim
  | some u => exact ⟨u, rfl, r⟩
theorem RelO.none_of {o : Option Value} (r : RelO none o) : o = none := by
  cases o with
  | none => rfl
  | some u => exact (show False from r).elim
theorem handed_of {v : V} {u : Value} (r : RelV v u) : PySem.W.handedIn u = true := by
  cases v with
  | non => cases (show u = Value.none from r); rfl
  | bl b => cases (show u = Value.bool b from r); rfl
  | int i => obtain ⟨t, e⟩ := (show ∃ t, u = Value.int i t from r); cases e; rfl
  | str x => obtain ⟨t, e⟩ := (show ∃ t, u = Value.str x t from r); cases e; rfl
  | byt b => obtain ⟨t, e⟩ := (show ∃ t, u = Value.bytes b t from r); cases e; rfl
  | flt b => obtain ⟨t, e⟩ := (show ∃ t, u = Value.float b t from r); cases e; rfl
  | ref a => cases (show u = Value.ref a from r); rfl
  | ty n => cases (show u = Value.type n from r); rfl
section
variable {P : Program} {w : World} {H H' : Hp} {h h' : Heap} {a C dx : Addr} {fs fs' : List (Str × V)}
theorem ins_get (hok : HOk P w H h) (e : H a = some (.ins C dx fs)) : ∃ mA, ObjM h a dx C mA ∧ (∀ f, RelO (fs.lookup f) (mA f)) ∧ PySem.Within mA (fs.map (·.1)) ∧ fs.length ≤ 1000 ∧ H dx = some (.own a) := by
  obtain ⟨d, z, ne, ob, mA, n, r, q⟩ := (show ObjOk P w H h a (.ins C dx fs) from hok a _ e)
  exact ⟨mA, ⟨ob, n, ne⟩, r, q, z, d⟩
end
structure Cls (K : PySem.W.Frag) (C : Addr) : Prop where
  pg : PySem.W.plainGet K C Str.empty = true
  hd : PySem.W.hasDictIn K C = true
  po : PySem.W.plainOver K C = true
  sa : PySem.W.findIn K (.ref C) "__setattr__" = some (some (.builtin "object.__setattr__"))
theorem Cls.get {K : PySem.W.Frag} {C : Addr} (c : Cls K C) (f : Str) : PySem.W.plainGet K C f = true := c.pg
def NoAttr (K : PySem.W.Frag) (C : Addr) (f : Str) : Prop := PySem.W.findIn K (.ref C) f = some none
theorem NoAttr.taker {K : PySem.W.Frag} {C : Addr} {f : Str} (n : NoAttr K C f) : PySem.W.takerIn K C f = some none := by
  unfold PySem.W.takerIn
  rw [show PySem.W.findIn K (.ref C) f = some none from n]
  rfl
structure Con (K : PySem.W.Frag) (C : Addr) (f : Str) (v : V) (u : Value) : Prop where
  at_ : PySem.W.findIn K (.ref C) f = some (some u)
  rel : RelV v u
  get : PySem.W.specialIn K u "__get__" = some none
  cp : PySem.W.copiedNames.contains f = false
structure Meth (K : PySem.W.Frag) (C : Addr) (m : Str) (f : Addr) : Prop where
  at_ : PySem.W.findIn K (.ref C) m = some (some (.ref f))
  fn : PySem.W.isFn K (.ref f) = true
  kp : PySem.W.keepIn K (.ref f) = true
section
variable {X : Cx} {pins : List (Addr × Obj)} {σ : St} {H : Hp} {s : Shared} {a C dx : Addr} {fs : List (Str × V)} {f : Str} {v : V} {A : Around} {E : Value → Shared → Prop}
theorem getattr_ok {b : Bool} {Q : Value → Shared → Prop} (I : Inv X pins σ H s) (e : H a = some (.ins C dx fs)) (c : Cls X.K C) (n : NoAttr X.K C f) (l : fs.lookup f = some v)
    (h : ∀ u s', Inv X pins σ H s' → RelV v u → Q u s') : wpAny (model X.prog X.w) A (getAttr (.ref a) f b) Q E s := by
  obtain ⟨mA, O, r, _, _, _⟩ := ins_get I.hok e
  obtain ⟨u, hu, ru⟩ := RelO.some_of (v := v) (o := mA f) (by rw [← l]; exact r f)
  exact get_map I.kIn O (c.get f) c.hd n hu (handed_of ru) (h u _ (I.tok _) ru)
theorem getmeth_ok {m : Str} {g : Addr} {pl : Sem Bool} {Q : Value × List Value → Shared → Prop} (I : Inv X pins σ H s) (e : H a = some (.ins C dx fs)) (c : Cls X.K C) (k : Meth X.K C m g) (l : fs.lookup m = none)
    (h : Q (.ref g, [.ref a]) s) : wpAny (model X.prog X.w) A (getMethod (.ref a) m pl) Q E s := by
  obtain ⟨mA, O, r, _, _, _⟩ := ins_get I.hok e
  have hn : mA m = none := RelO.none_of (by rw [← l]; exact r m)
  exact get_meth I.kIn O (c.get m) k.at_ k.fn hn h
theorem setattr_ok {y : V} {u : Value} {Q : Unit → Shared → Prop} (I : Inv X pins σ H s) (e : H a = some (.ins C dx fs)) (c : Cls X.K C) (n : NoAttr X.K C f) (hl : fs.length < 1000) (ry : RelV y u)
    (h : ∀ s', Inv X pins σ (upd H a (.ins C dx (putF f y fs))) s' → Q () s') : wpAny (model X.prog X.w) A (setAttr (.ref a) f u) Q E s := by
  obtain ⟨mA, O, r, wi, _, ho⟩ := ins_get I.hok e
  have hz : (fs.map (·.1)).length ≤ sizeLine := by rw [List.length_map, sizeLine_eq]; omega
  refine set_map I.kIn O c.sa c.po n.taker c.hd wi hz fun h' O' sb => h _ ?_
  have hd : ∃ o, h'.get? dx = some o := let ⟨o, _, _, e', _⟩ := O'.ns; ⟨o, e'⟩
  refine I.write (x := a) (e := dx) (by rw [e]; exact True.intro) (.inr ho) (fun b q hb z => (sb.2 b hb).trans z) hd ?_
  refine ⟨by rw [upd_ne O.ne]; exact ho, ?_, O.ne, O'.obj, _, O'.ns, fun g => ?_, fun g hg => ?_⟩
  · have := length_putF f y fs; omega
  · show RelO ((putF f y fs).lookup g) (if g = f then some u else mA g)
    rw [lookup_putF]
    by_cases q : g = f
    · rw [if_pos q, if_pos q]; exact ry
    · rw [if_neg q, if_neg q]; exact r g
  · by_cases q : g = f
    · rw [q]; exact (keys_putF f y fs).1
    · refine (keys_putF f y fs).2 g (wi g fun z => hg ?_)
      show (if g = f then some u else mA g) = none
      rw [if_neg q]; exact z
theorem Inv.made (I : Inv X pins σ H s) : Inv X pins σ (upd (upd H s.heap.objs.size (.own (s.heap.objs.size + 1))) (s.heap.objs.size + 1) (.ins C s.heap.objs.size []))
    { s with heap := (s.heap.push PySem.W.emptyDict).push (PySem.W.instObj C s.heap.objs.size) } := by
  have e1 : (s.heap.push PySem.W.emptyDict).get? s.heap.objs.size = some PySem.W.emptyDict := Heap.get?_push_size s.heap rfl
  have e2 : ((s.heap.push PySem.W.emptyDict).push (PySem.W.instObj C s.heap.objs.size)).get? (s.heap.objs.size + 1) = some (PySem.W.instObj C s.heap.objs.size) := by
    have := Heap.get?_push_size (s.heap.push PySem.W.emptyDict) (o := PySem.W.instObj C s.heap.objs.size) rfl
    rwa [Heap.size_push] at this
  have e3 : (s.heap.push PySem.W.emptyDict).Ns s.heap.objs.size (fun _ => none) := ⟨PySem.W.emptyDict, #[], _, e1, rfl, (fun e he => absurd he (by simp)), fun _ => rfl⟩
  have I1 := I.laid (a := s.heap.objs.size) (o := .own (s.heap.objs.size + 1)) (h' := s.heap.push PySem.W.emptyDict) (t' := s.toks) (fun b u q => Heap.get?_push_of_some _ q) (Nat.le_refl _) ⟨_, e1⟩
  refine I1.laid (a := s.heap.objs.size + 1) (o := .ins C s.heap.objs.size []) (t' := s.toks) (fun b u q => Heap.get?_push_of_some _ q) (Nat.le_of_eq (Heap.size_push _ _)) ?_
  have ne : s.heap.objs.size ≠ s.heap.objs.size + 1 := Nat.ne_of_lt (Nat.lt_succ_self _)
  refine ⟨by rw [upd_ne ne, upd_same], Nat.zero_le _, ne, e2, fun _ => none, (Heap.Ns1.of_empty e3).at fun o q => Heap.get?_push_of_some _ q, fun _ => True.intro, fun y hy => absurd rfl hy⟩
theorem attr_of {prog : Program} {w : World} {env : Env} {e : Expr} {f : Str} {pos : Pos} {s : Shared} {Q : Value → Shared → Prop} (hb : attributeBase e f env (eval e env) = eval e env)
    (h : wpAny (model prog w) A (eval e env) (fun o s₁ => wpAny (model prog w) A (getAttr o f true) Q E s₁) E s) : wpAny (model prog w) A (eval (.Attribute e f pos) env) Q E s :=
  Attribute_any_ h (by rw [arm_eval_Attribute, hb])
end
def tFld (K : PySem.W.Frag) (ta : TE) (f : Str) : TE := fun σ H Q => ta σ H fun x H1 => ∃ a C dx fs v, x = .ref a ∧ H1 a = some (.ins C dx fs) ∧ Cls K C ∧ NoAttr K C f ∧ fs.lookup f = some v ∧ Q v H1
def sFld (K : PySem.W.Frag) (ta tv : TE) (f : Str) : TS := fun D σ H => tv σ H fun y H1 => ta σ H1 fun x H2 => ∃ a C dx fs, x = .ref a ∧ H2 a = some (.ins C dx fs) ∧ Cls K C ∧ NoAttr K C f ∧ fs.length < 1000 ∧
  D.nx σ (upd H2 a (.ins C dx (putF f y fs)))
section
variable {X : Cx} {o e value : Expr} {f : Str} {pos pos' tpos : Pos} {ta tv : TE}
theorem pe_fld (he : PE X e ta) (hb : attributeBase e f X.env (eval e X.env) = eval e X.env) : PE X (.Attribute e f pos) (tFld X.K ta f) := by
  intro pins s σ H Q I h
  refine attr_of hb (thn (he pins s σ H _ I h) fun u s1 ⟨x, H1, I1, rx, a, C, dx, fs, v, ex, ea, c, n, l, q⟩ => ?_)
  subst ex
  obtain rfl : u = Value.ref a := rx
  exact getattr_ok I1 ea c n l fun u' s2 I2 ru => ⟨v, H1, I2, ru, q⟩
theorem ps_fld (ha : PE X o ta) (hv : PE X value tv) (hs : swapsWith value (some (.Attribute o f pos')) pos.line X.env = pure false) : PS X (.Assign [.Attribute o f pos'] value pos) (sFld X.K ta tv f) := by
  intro pins s σ H D I h
  refine plainObj_wpAny_Assign_Attribute (thn (hv pins s σ H _ I h) fun u s1 ⟨y, H1, I1, ry, q⟩ => thn (ha pins s1 σ H1 _ I1 q) fun ov s2 ⟨x, H2, I2, rx, a, C, dx, fs, ex, ea, c, n, l, q2⟩ => ?_) hs
  subst ex
  obtain rfl : ov = Value.ref a := rx
  exact setattr_ok I2 ea c n l ry fun s3 I3 => ⟨σ, _, I3, q2⟩
end
section
variable {X : Cx} {pins : List (Addr × Obj)} {σ : St} {H : Hp} {s : Shared} {A : Around} {E : Value → Shared → Prop} {Q : Value → Shared → Prop} {c : Value} {b : Bool}
inductive TyOf (K : PySem.W.Frag) (H : Hp) : V → Value → Prop where
  | non : TyOf K H .non (.type "NoneType")
  | bl (x : Bool) : TyOf K H (.bl x) (.type "bool")
  | int (i : Int) : TyOf K H (.int i) (.type "int")
  | str (x : Str) : TyOf K H (.str x) (.type "str")
  | flt (x : UInt64) : TyOf K H (.flt x) (.type "float")
  | lst {a : Addr} {xs : List V} (e : H a = some (.lst xs)) : TyOf K H (.ref a) (.type "list")
  | frz {a : Addr} {o : Obj} {xs : List V} (e : H a = some (.frz o (.lst xs))) : TyOf K H (.ref a) (.type "list")
  | tup {a : Addr} {xs : List V} (e : H a = some (.tup xs)) : TyOf K H (.ref a) (.type "tuple")
  | dK {a : Addr} {kvs : List (Key × V)} (e : H a = some (.dK kvs)) : TyOf K H (.ref a) (.type "dict")
  | dT {a : Addr} {kvs : List (List Key × V)} (e : H a = some (.dT kvs)) : TyOf K H (.ref a) (.type "dict")
  | ins {a C dx : Addr} {fs : List (Str × V)} (e : H a = some (.ins C dx fs)) (cl : Cls K C) (ha : PySem.W.findIn K (.ref C) "__class__" = some (some (.builtin "object.__class__")))
      (hn : PySem.W.specialIn K (.builtin "object.__class__") "__get__" = some (some (.builtin "getset_descriptor.__get__"))) (htk : PySem.W.takesIn K (.builtin "object.__class__") = some true)
      (hm : PySem.W.mroIn K C (.type "object") = some true) : TyOf K H (.ref a) (.ref C)
end
end L2
namespace L2
open PySem PySem.Spec PyProof.Rows
structure Room (k : Nat) (A : Around) : Prop where
  hd : A.handled = none
  dp : A.depth + 3 * k + 5 < recursionLimit
  un : A.units + 16 * k + 200 < cLine
theorem Room.mono {j k : Nat} {A : Around} (r : Room k A) (h : j ≤ k) : Room j A := ⟨r.hd, by have := r.dp; omega, by have := r.un; omega⟩
theorem Room.deeper {k : Nat} {A : Around} (r : Room (k + 1) A) (env : Env) : Room k (A.deeper env) :=
  ⟨r.hd, by have := r.dp; show A.depth + 1 + 3 * k + 5 < _; omega, by have := r.un; show A.units + 3 + 16 * k + 200 < _; omega⟩
theorem Room.in1 {k : Nat} {A : Around} (r : Room (k + 1) A) : Room k A.in1 :=
  ⟨r.hd, by have := r.dp; show A.depth + 3 * k + 5 < _; omega, by have := r.un; show A.units + 1 + 16 * k + 200 < _; omega⟩
theorem make_depth {A : Around} {C : Addr} {us : List Value} {kw : List (Str × Value)} : (A.under (.builtin "type.__call__" ⟨.ref C :: us, kw⟩)).depth = A.depth + 1 := by
  first | rfl | simp [Around.under, Code.weight, Code.isCreation, Code.isGuard, Code.isCaller, Code.frames, Code.isFrame, guardIds]
theorem make_units {A : Around} {C : Addr} {us : List Value} {kw : List (Str × Value)} : (A.under (.builtin "type.__call__" ⟨.ref C :: us, kw⟩)).units = A.units + 1 := by
  first | rfl | simp [Around.under, Code.cUnits, Code.frames, Code.isFrame]
theorem Room.make {k : Nat} {A : Around} (r : Room (k + 1) A) (C : Addr) (us : List Value) (kw : List (Str × Value)) : Room k (A.under (.builtin "type.__call__" ⟨.ref C :: us, kw⟩)) :=
  ⟨r.hd, by have := r.dp; rw [make_depth]; omega, by have := r.un; rw [make_units]; omega⟩
theorem Room.depth {k : Nat} {A : Around} (r : Room k A) : A.depth < recursionLimit := by have := r.dp; omega
theorem Room.units {k : Nat} {A : Around} (r : Room k A) : A.units + 64 < cLine := by have := r.un; omega
def tNil : TA := fun _ H Q => Q [] H
def tCons (ta : TE) (tr : TA) : TA := fun σ H Q => ta σ H fun x H1 => tr σ H1 fun xs H2 => Q (x :: xs) H2
section
variable {X : Cx} {e : Expr} {es : List Expr} {te : TE} {t : TA} {pos : Pos}
theorem pa_nil : PA X [] tNil := fun _ _ _ _ H Q I h => Calls.spliced_nil ⟨[], H, I, .nil, h⟩
theorem pa_cons (ha : PE X e te) (hr : PA X es t) (hs : starEach (e :: es) X.env = (false, eval e X.env) :: starEach es X.env := by rfl) : PA X (e :: es) (tCons te t) := by
  intro pos pins s σ H Q I h
  rw [hs]
  show wpAny _ _ (spliced ((false, eval e X.env) :: backTo pos (starEach es X.env))) _ _ s
  refine Calls.spliced_cons (thn (ha pins s σ H _ I h) fun u s1 ⟨x, H1, I1, r1, q1⟩ => ?_)
  exact thn (hr pos pins s1 σ H1 _ I1 q1) fun us s2 ⟨xs, H2, I2, r2, q2⟩ => ⟨x :: xs, H2, I2, .cons r1 r2, q2⟩
def tTup (t : TA) : TE := fun σ H Q => t σ H fun xs H1 => xs.length ≤ sizeLine ∧ ∀ p, H1 p = none → Q (.ref p) (upd H1 p (.tup xs))
def tLst (t : TA) : TE := fun σ H Q => t σ H fun xs H1 => xs.length ≤ sizeLine ∧ ∀ p, H1 p = none → Q (.ref p) (upd H1 p (.lst xs))
theorem pe_tup {x1} (h : PA X es t) : PE X (.Tuple es x1 pos) (tTup t) := by
  intro pins s σ H Q I hq
  refine wpAny_Tuple_spliced (thn (h pos pins s σ H _ I hq) fun us s1 ⟨xs, H1, I1, r, z, q⟩ => ⟨by rw [← r.length]; exact z, ?_⟩)
  have hf : H1 s1.heap.objs.size = none := I1.hok.fresh (Nat.le_refl _)
  refine ⟨.ref s1.heap.objs.size, upd H1 s1.heap.objs.size (.tup xs), I1.laid (t' := s1.toks) (fun b u e => Heap.get?_push_of_some _ e) (Nat.le_refl _) ?_, rfl, q _ hf⟩
  exact ⟨z, us, r, ⟨_, Heap.get?_push_size _ rfl, rfl, _, rfl⟩⟩
theorem pe_lst (h : PA X es t) : PE X (.List es pos) (tLst t) := by
  intro pins s σ H Q I hq
  refine wpAny_List_spliced (thn (h pos pins s σ H _ I hq) fun us s1 ⟨xs, H1, I1, r, z, q⟩ => ⟨by rw [← r.length]; exact z, ?_⟩)
  have hf : H1 s1.heap.objs.size = none := I1.hok.fresh (Nat.le_refl _)
  refine ⟨.ref s1.heap.objs.size, upd H1 s1.heap.objs.size (.lst xs), I1.laid (t' := s1.toks) (fun b u e => Heap.get?_push_of_some _ e) (Nat.le_refl _) ?_, rfl, q _ hf⟩
  exact ⟨z, us, 0, r, Heap.get?_push_size _ rfl⟩
end
abbrev Sp := List V → Hp → VK → XK → Prop
abbrev CXT := List Env → Hp → Shared → XK → Value → Shared → Prop
structure Env0 (P : Program) (w : World) (K : PySem.W.Frag) (mg : Str → Option Value) (base : Heap) (A : Around) (outer : List Env) (s : Shared) (H : Hp) : Prop where
  frames : A.frames = some outer
  mod : Mod K mg base
  bs : ∀ b o, base.get? b = some o → s.heap.get? b = some o ∧ H b = none
  bsz : base.objs.size ≤ s.heap.objs.size
  funs : s.heap.FunFrames base outer
  frf : ∀ b ∈ frs outer, H b = none
  hok : HOk P w H s.heap
  bare : AllBare s.gens
def CE (outer : List Env) (P : Program) (w : World) (H : Hp) (s : Shared) (Q : VK) (u : Value) (s' : Shared) : Prop :=
  ∃ v H', s'.os = s.os ∧ AllBare s'.gens ∧ Un (frs outer) [] H H' s.heap s'.heap ∧ HOk P w H' s'.heap ∧ RelV v u ∧ Q v H'
def CR (CX : CXT) (outer : List Env) (P : Program) (w : World) (H : Hp) (s : Shared) (Q : VK) (E : XK) (r : Result) (s' : Shared) : Prop :=
  match r with
  | .ok (.ret u) => CE outer P w H s Q u s'
  | .ok _ => False
  | .error e => CX outer H s E e s'
structure FnOk (P : Program) (w : World) (K : PySem.W.Frag) (mg : Str → Option Value) (base : Heap) (CX : CXT) (k : Nat) (f : Addr) (fd : FuncData) (ps : List Str) (sp : Sp) : Prop where
  len : ∀ vs H Q E, sp vs H Q E → vs.length = ps.length
  run : ∀ (A : Around) (outer : List Env) (s : Shared) (H : Hp) (args : Args) (us : List Value) (vs : List V) (Q : VK) (E : XK), Room k A → Env0 P w K mg base A outer s H → BindsTo s fd args (ps.zip us) → Vals vs us → sp vs H Q E →
    codeAny (model P w) A (.call (.ref f) args) (CR CX outer P w H s Q E) s
theorem FnOk.mono {P : Program} {w : World} {K : PySem.W.Frag} {mg : Str → Option Value} {base : Heap} {CX : CXT} {j k : Nat} {f : Addr} {fd : FuncData} {ps : List Str} {sp : Sp} (F : FnOk P w K mg base CX j f fd ps sp) (h : j ≤ k) :
    FnOk P w K mg base CX k f fd ps sp := ⟨F.len, fun A outer s H args us vs Q E hr => F.run A outer s H args us vs Q E (hr.mono h)⟩
theorem Env0.make {P : Program} {w : World} {K : PySem.W.Frag} {mg : Str → Option Value} {base : Heap} {A : Around} {outer : List Env} {s : Shared} {H : Hp} (e : Env0 P w K mg base A outer s H) (C : Addr) (us : List Value) (kw : List (Str × Value)) :
    Env0 P w K mg base (A.under (.builtin "type.__call__" ⟨.ref C :: us, kw⟩)) outer s H := ⟨by first | exact e.frames | (simpa [Around.under, Code.envs, Code.isFrame, pushEnvs] using e.frames), e.mod, e.bs, e.bsz, e.funs, e.frf, e.hok, e.bare⟩
theorem Env0.in1 {P : Program} {w : World} {K : PySem.W.Frag} {mg : Str → Option Value} {base : Heap} {A : Around} {outer : List Env} {s : Shared} {H : Hp} (e : Env0 P w K mg base A outer s H) :
    Env0 P w K mg base A.in1 outer s H := ⟨e.frames, e.mod, e.bs, e.bsz, e.funs, e.frf, e.hok, e.bare⟩
section
variable {X : Cx} {pins : List (Addr × Obj)} {σ : St} {H : Hp} {s s' : Shared}
theorem Inv.env0 (I : Inv X pins σ H s) : Env0 X.prog X.w X.K X.mg X.base X.A X.stack s H :=
  ⟨I.ok.frames, I.ok.mod, I.bs, Nat.le_trans I.ok.bsz I.sz, I.stack, I.stkFree, I.hok, I.bare⟩
theorem Inv.after {Q : VK} {u : Value} (I : Inv X pins σ H s) (h : CE X.stack X.prog X.w H s Q u s') : EP X pins σ Q u s' := by
  obtain ⟨v, H', os, bare, un, hok, r, q⟩ := h
  obtain ⟨hh, g, d, t, os'⟩ := s'
  obtain rfl : os' = s.os := os
  exact ⟨v, H', I.call (h' := hh) (g' := g) (d' := d) (t' := t) (ch := []) un hok bare (fun b z => absurd z (by simp)), r, q⟩
end
def tCall (sp : Sp) (dvs : List V) (E : XK) (t : TA) : TE := fun σ H Q => t σ H fun vs H1 => sp (vs ++ dvs) H1 Q E
def tMeth (C : Addr) (m : Str) (sp : Sp) (dvs : List V) (E : XK) (ta : TE) (t : TA) : TE := fun σ H Q => ta σ H fun x H1 => ∃ a dx fs, x = .ref a ∧ H1 a = some (.ins C dx fs) ∧ fs.lookup m = none ∧
  t σ H1 fun vs H2 => sp (x :: (vs ++ dvs)) H2 Q E
def tMake (C : Addr) (sp : Sp) (dvs : List V) (E : XK) (t : TA) : TE := fun σ H Q => t σ H fun vs H1 => ∀ x dx, H1 x = none → H1 dx = none → dx ≠ x →
  sp (.ref x :: (vs ++ dvs)) (upd (upd H1 dx (.own x)) x (.ins C dx [])) (fun v H2 => v = .non ∧ Q (.ref x) H2) E
def Binds (K : PySem.W.Frag) (fd : FuncData) (ps : List Str) (ds : List Value) : Prop :=
  ∀ (s : Shared) (us : List Value), K.In s.heap → (us ++ ds).length = ps.length → BindsTo s fd ⟨us, []⟩ (ps.zip (us ++ ds))
theorem Binds.all {K : PySem.W.Frag} {fd : FuncData} {ps : List Str} (h : ∀ us : List Value, us.length = ps.length → bindArgs fd ⟨us, []⟩ = pure (ps.zip us)) : Binds K fd ps [] := fun s us _ hl => by
  rw [List.append_nil] at hl ⊢
  exact .of_eq (h us hl)
def Passes (CX : CXT) (X : Cx) (E : XK) : Prop := ∀ (pins : List (Addr × Obj)) (σ : St) (H : Hp) (s : Shared) (e : Value) (s' : Shared), Inv X pins σ H s → CX X.stack H s E e s' → X.xe e s'
section
variable {X : Cx} {CX : CXT} {k : Nat} {f C : Addr} {fd : FuncData} {ps : List Str} {sp : Sp} {dvs : List V} {ds : List Value} {E : XK} {x m : Str} {p pos apos : Pos} {e o : Expr} {es : List Expr} {ta : TE} {t : TA}
theorem run_fn {pins : List (Addr × Obj)} {σ : St} {H : Hp} {s : Shared} {Q : VK} {us : List Value} {vs : List V} (F : FnOk X.prog X.w X.K X.mg X.base CX k f fd ps sp) (hr : Room k X.A) (hb : Binds X.K fd ps ds) (hd : Vals dvs ds) (hx : Passes CX X E)
    (I : Inv X pins σ H s) (r : Vals vs us) (h : sp (vs ++ dvs) H Q E) : wpAny (model X.prog X.w) X.A (call (.ref f) us) (EP X pins σ Q) X.xe s := by
  have r2 : Vals (vs ++ dvs) (us ++ ds) := r.append hd
  have hl : (us ++ ds).length = ps.length := by rw [← r2.length]; exact F.len _ _ _ _ h
  refine wpAny_call (codeAny_mono (F.run X.A X.stack s H ⟨us, []⟩ (us ++ ds) (vs ++ dvs) Q E hr I.env0 (hb s us I.kIn hl) r2 h) fun r s' hq => ?_)
  cases r with
  | error e => exact hx pins σ H s e s' I hq
  | ok fl =>
    cases fl with
    | ret u => exact I.after hq
    | next => exact False.elim hq
    | brk => exact False.elim hq
    | cont => exact False.elim hq
theorem pe_call (F : FnOk X.prog X.w X.K X.mg X.base CX k f fd ps sp) (hr : Room k X.A) (hg : Gl X x) (hm : X.mg x = some (.ref f)) (hk : PySem.W.keepIn X.K (.ref f) = true) (hb : Binds X.K fd ps ds) (hd : Vals dvs ds) (hx : Passes CX X E)
    (ha : PA X (e :: es) t) (hdb : (x == ("__debug__" : Str)) = false := by decide) (he : starEach (e :: es) X.env = (false, eval e X.env) :: starEach es X.env := by rfl) (hpl : (backTo pos (starEach es X.env)).any (·.1) = false := by rfl) :
    PE X (.Call (.Name x p) (e :: es) [] pos) (tCall sp dvs E t) := by
  intro pins s σ H Q I h
  refine wpAny_Call_Name_kw (ld_glob I hg hm ?_ hdb)
  refine PySem.W.callWith_K (h₀ := X.base) I.ok.mod.kin hk (thn (ha pos pins s σ H _ I h) fun us s1 ⟨vs, H1, I1, r, q⟩ => ⟨I1.kIn, ?_⟩) he hpl
  exact run_fn F hr hb hd hx I1 r q
theorem pe_meth {pl : Sem Bool} (he : PE X o ta) (c : Cls X.K C) (hm : Meth X.K C m f) (F : FnOk X.prog X.w X.K X.mg X.base CX k f fd ps sp) (hr : Room k X.A) (hb : Binds X.K fd ps ds) (hd : Vals dvs ds) (hx : Passes CX X E) (ha : PA X (e :: es) t)
    (hst : starEach (e :: es) X.env = (false, eval e X.env) :: starEach es X.env := by rfl) (hpl : (backTo pos (starEach es X.env)).any (·.1) = false := by rfl)
    (ht : eval (.Call (.Attribute o m apos) (e :: es) [] pos) X.env = (do
      let ov ← eval o X.env
      standAt apos.atName
      let (f, first) ← holding [ov] (getMethod ov m pl)
      callWith pos f first (backTo pos (starEach (e :: es) X.env)) (backToKw pos (keywordEach [] X.env))) := by rfl) :
    PE X (.Call (.Attribute o m apos) (e :: es) [] pos) (tMeth C m sp dvs E ta t) := by
  intro pins s σ H Q I h
  refine PySem.W.methodCall_KW (pl := pl) (thn (he pins s σ H _ I h) fun u s1 ⟨x, H1, I1, rx, a, dx, fs, ex, ea, l, q⟩ => ?_) ht
  subst ex
  obtain rfl : u = Value.ref a := rx
  refine getmeth_ok I1 ea c hm l ?_
  refine PySem.W.callWith_K (first := [.ref a]) (h₀ := X.base) I.ok.mod.kin hm.kp (thn (ha pos pins s1 σ H1 _ I1 q) fun us s2 ⟨vs, H2, I2, r, q2⟩ => ⟨I2.kIn, ?_⟩) hst hpl
  exact run_fn (us := .ref a :: us) (vs := .ref a :: vs) F hr hb hd hx I2 (.cons rfl r) q2
theorem pe_meth0 {pl : Sem Bool} (he : PE X o ta) (c : Cls X.K C) (hm : Meth X.K C m f) (F : FnOk X.prog X.w X.K X.mg X.base CX k f fd ps sp) (hr : Room k X.A) (hb : Binds X.K fd ps ds) (hd : Vals dvs ds) (hx : Passes CX X E)
    (ht : eval (.Call (.Attribute o m apos) [] [] pos) X.env = (do
      let ov ← eval o X.env
      standAt apos.atName
      let (f, first) ← holding [ov] (getMethod ov m pl)
      callWith pos f first (backTo pos (starEach [] X.env)) (backToKw pos (keywordEach [] X.env))) := by rfl) :
    PE X (.Call (.Attribute o m apos) [] [] pos) (tMeth C m sp dvs E ta tNil) := by
  intro pins s σ H Q I h
  refine PySem.W.methodCall_KW (pl := pl) (thn (he pins s σ H _ I h) fun u s1 ⟨x, H1, I1, rx, a, dx, fs, ex, ea, l, q⟩ => ?_) ht
  subst ex
  obtain rfl : u = Value.ref a := rx
  refine getmeth_ok I1 ea c hm l ?_
  exact PySem.W.callWith_K0 (first := [.ref a]) I1.kIn hm.kp (run_fn (us := [.ref a]) (vs := [.ref a]) F hr hb hd hx I1 (.cons rfl .nil) q)
structure Mk (K : PySem.W.Frag) (C f : Addr) : Prop where
  makes : PySem.W.makesIn K C = true
  init : PySem.W.findIn K (.ref C) "__init__" = some (some (.ref f))
  fn : PySem.W.isFn K (.ref f) = true
  kp : PySem.W.keepIn K (.ref C) = true
theorem run_make {pins : List (Addr × Obj)} {σ : St} {H : Hp} {s : Shared} {Q : VK} {us : List Value} {vs : List V} (M : Mk X.K C f) (F : FnOk X.prog X.w X.K X.mg X.base CX k f fd ps sp) (hr : Room (k + 1) X.A) (hb : Binds X.K fd ps ds) (hd : Vals dvs ds)
    (hx : Passes CX X E) (I : Inv X pins σ H s) (r : Vals vs us)
    (h : ∀ x dx, H x = none → H dx = none → dx ≠ x → sp (.ref x :: (vs ++ dvs)) (upd (upd H dx (.own x)) x (.ins C dx [])) (fun v H2 => v = .non ∧ Q (.ref x) H2) E) :
    wpAny (model X.prog X.w) X.A (call (.ref C) us) (EP X pins σ Q) X.xe s := by
  have hq := h (s.heap.objs.size + 1) s.heap.objs.size (I.hok.fresh (Nat.le_succ _)) (I.hok.fresh (Nat.le_refl _)) (Nat.ne_of_lt (Nat.lt_succ_self _))
  have I2 := Inv.made (C := C) I
  have r2 : Vals (V.ref (s.heap.objs.size + 1) :: (vs ++ dvs)) (Value.ref (s.heap.objs.size + 1) :: (us ++ ds)) := .cons rfl (r.append hd)
  have hl : (Value.ref (s.heap.objs.size + 1) :: us ++ ds).length = ps.length := by
    have e := r2.length
    rw [F.len _ _ _ _ hq] at e
    exact e.symm
  refine wpAny_call (make_map (f := f) I.kIn M.makes M.init (beq_iff_eq.mp M.fn) (codeAny_mono (F.run _ X.stack _ _ ⟨Value.ref (s.heap.objs.size + 1) :: us, []⟩ (Value.ref (s.heap.objs.size + 1) :: (us ++ ds)) _ _ E (hr.make C us [])
    (I2.env0.make C us []) (hb _ (Value.ref (s.heap.objs.size + 1) :: us) I2.kIn hl) r2 hq) fun r s' hq' => ?_))
  cases r with
  | error e => exact hx pins σ _ _ e s' I2 hq'
  | ok fl =>
    cases fl with
    | ret u =>
      obtain ⟨v, H', I3, rv, ev, q3⟩ := I2.after hq'
      subst ev
      exact ⟨rv, ⟨V.ref (s.heap.objs.size + 1), H', I3, rfl, q3⟩⟩
    | next => exact False.elim hq'
    | brk => exact False.elim hq'
    | cont => exact False.elim hq'
theorem pe_make (M : Mk X.K C f) (F : FnOk X.prog X.w X.K X.mg X.base CX k f fd ps sp) (hr : Room (k + 1) X.A) (hg : Gl X x) (hm : X.mg x = some (.ref C)) (hb : Binds X.K fd ps ds) (hd : Vals dvs ds) (hx : Passes CX X E)
    (ha : PA X (e :: es) t) (hdb : (x == ("__debug__" : Str)) = false := by decide) (he : starEach (e :: es) X.env = (false, eval e X.env) :: starEach es X.env := by rfl) (hpl : (backTo pos (starEach es X.env)).any (·.1) = false := by rfl) :
    PE X (.Call (.Name x p) (e :: es) [] pos) (tMake C sp dvs E t) := by
  intro pins s σ H Q I h
  refine wpAny_Call_Name_kw (ld_glob I hg hm ?_ hdb)
  refine PySem.W.callWith_K (h₀ := X.base) I.ok.mod.kin M.kp (thn (ha pos pins s σ H _ I h) fun us s1 ⟨vs, H1, I1, r, q⟩ => ⟨I1.kIn, ?_⟩) he hpl
  exact run_make M F hr hb hd hx I1 r q
end
section
variable {X : Cx} {CX : CXT} {k : Nat} {f C : Addr} {fd : FuncData} {ps ks : List Str} {sp : Sp} {E : XK} {x m : Str} {p pos apos kpos : Pos} {e o : Expr} {es : List Expr} {kws : List Keyword} {te ta : TE} {t tk : TA} {nm : Option Str}
structure KBinds (K : PySem.W.Frag) (fd : FuncData) (ps ks : List Str) (g : List Value → List Value → List Value) (gV : List V → List V → List V) : Prop where
  to : ∀ (s : Shared) (us ws : List Value), K.In s.heap → (g us ws).length = ps.length → BindsTo s fd ⟨us, ks.zip ws⟩ (ps.zip (g us ws))
  rel : ∀ {vs : List V} {us : List Value} {zs : List V} {ws : List Value}, Vals vs us → Vals zs ws → Vals (gV vs zs) (g us ws)
variable {g : List Value → List Value → List Value} {gV : List V → List V → List V}
end
structure FnScope (N P : List Str) (sc : Scope) : Prop where
  kind : sc.kind = .function
  co : sc.isCoroutine = false
  gen : sc.isGenerator = false
  nd : N.Nodup
  pre : N.take P.length = P
  par : ∀ x ∈ P, sc.names.lookup x = some .local ∨ sc.names.lookup x = some .cell
  nofree : ∀ y ∈ sc.names, y.2 ≠ .free
theorem bindL_out {kindOf : Str → Option NameKind} {x : Str} : ∀ {binds : List (Str × Value)} {m : Str → Option Value}, (∀ v, (x, v) ∉ binds) → bindL kindOf binds m x = m x
  | [], _, _ => rfl
  | (n, v) :: r, m, h => by
    unfold bindL
    rw [bindL_out fun w hw => h w (List.mem_cons_of_mem _ hw)]
    split
    · have : x ≠ n := by rintro rfl; exact h v List.mem_cons_self
      simp [this]
    · rfl
theorem bindC_out {kindOf : Str → Option NameKind} {x : Str} : ∀ {binds : List (Str × Value)} {m : Str → Option Value}, (∀ v, (x, v) ∉ binds) → bindC kindOf binds m x = m x
  | [], _, _ => rfl
  | (n, v) :: r, m, h => by
    unfold bindC
    rw [bindC_out fun w hw => h w (List.mem_cons_of_mem _ hw)]
    split
    · rfl
    · have : x ≠ n := by rintro rfl; exact h v List.mem_cons_self
      simp [this]
theorem bindL_get {kindOf : Str → Option NameKind} {x : Str} {v : Value} : ∀ {P : List Str} {vs : List Value} {i : Nat} {m : Str → Option Value}, P.Nodup → P[i]? = some x → vs[i]? = some v → kindOf x = some .local →
    bindL kindOf (P.zip vs) m x = some v
  | [], _, _, _, _, h, _, _ => by simp at h
  | _ :: _, [], _, _, _, _, h, _ => by simp at h
  | p :: P, w :: vs, 0, m, nd, h1, h2, hk => by
    simp at h1 h2; subst h1; subst h2
    show bindL kindOf ((p, w) :: P.zip vs) m p = _
    unfold bindL
    rw [bindL_out fun v hv => (List.nodup_cons.mp nd).1 (List.of_mem_zip hv).1, if_pos hk]
    simp
  | p :: P, w :: vs, i + 1, m, nd, h1, h2, hk => by
    show bindL kindOf ((p, w) :: P.zip vs) m x = _
    unfold bindL
    exact bindL_get (i := i) (List.nodup_cons.mp nd).2 (by simpa using h1) (by simpa using h2) hk
theorem bindC_get {kindOf : Str → Option NameKind} {x : Str} {v : Value} : ∀ {P : List Str} {vs : List Value} {i : Nat} {m : Str → Option Value}, P.Nodup → P[i]? = some x → vs[i]? = some v → kindOf x ≠ some .local →
    bindC kindOf (P.zip vs) m x = some v
  | [], _, _, _, _, h, _, _ => by simp at h
  | _ :: _, [], _, _, _, _, h, _ => by simp at h
  | p :: P, w :: vs, 0, m, nd, h1, h2, hk => by
    simp at h1 h2; subst h1; subst h2
    show bindC kindOf ((p, w) :: P.zip vs) m p = _
    unfold bindC
    rw [bindC_out fun v hv => (List.nodup_cons.mp nd).1 (List.of_mem_zip hv).1, if_neg hk]
    simp
  | p :: P, w :: vs, i + 1, m, nd, h1, h2, hk => by
    show bindC kindOf ((p, w) :: P.zip vs) m x = _
    unfold bindC
    exact bindC_get (i := i) (List.nodup_cons.mp nd).2 (by simpa using h1) (by simpa using h2) hk
def start (N : List Str) (vs : List V) : St := vs.map some ++ List.replicate (N.length - vs.length) none
def cxOf (CX : CXT) (P : Program) (w : World) (K : PySem.W.Frag) (mg : Str → Option Value) (base : Heap) (N : List Str) (qual : Str) (scope : Scope) (f : Addr) (cd : Value) (A : Around) (outer : List Env) (s : Shared) (H : Hp) (E : XK) : Cx where
  prog := P
  w := w
  K := K
  mg := mg
  base := base
  A := A.deeper (envOfC qual scope s.heap.objs.size f cd)
  N := N
  s₀ := s
  H₀ := H
  env := envOfC qual scope s.heap.objs.size f cd
  outer := outer
  stack := envOfC qual scope s.heap.objs.size f cd :: outer
  ex := []
  calm := true
  fn := fun _ => true
  pn := []
  xe := fun e s' => wpAny (model P w) (A.deeper (envOfC qual scope s.heap.objs.size f cd)) (leaving (envOfC qual scope s.heap.objs.size f cd) e) (fun _ s'' => CX outer H s E e s'') (fun e' s'' => CX outer H s E e' s'') s'
theorem cell_has {sc : Scope} {n : Nat} {x : Str} (h : sc.names.lookup x = some .cell) : ∃ c, (cellsFrom n sc.names []).lookup x = some c := by
  have q := PySem.W.cellsFrom_some sc.names n [] (.inl h)
  exact Option.isSome_iff_exists.mp q
theorem inv_start {CX : CXT} {P : Program} {w : World} {K : PySem.W.Frag} {mg : Str → Option Value} {base : Heap} {N ps : List Str} {qual : Str} {scope : Scope} {f : Addr} {cd : Value} {A : Around} {outer : List Env} {s s1 : Shared} {H : Hp} {E : XK} {us : List Value} {vs : List V}
    (S : FnScope N ps scope) (hd : A.handled = none) (e0 : Env0 P w K mg base A outer s H) (hl : vs.length = ps.length) (r : Vals vs us)
    (x : InCallC s s.heap.objs.size (bindL (envOfC qual scope s.heap.objs.size f cd).kindOf (ps.zip us) fun _ => none) (cellsFrom (s.heap.objs.size + 1) scope.names []) (bindC (envOfC qual scope s.heap.objs.size f cd).kindOf (ps.zip us) fun _ => none) s1) :
    Inv (cxOf CX P w K mg base N qual scope f cd A outer s H E) [] (start N vs) H s1 := by
  have hpl : ps.length ≤ N.length := by have := congrArg List.length S.pre; rw [List.length_take] at this; omega
  obtain ⟨h1, tk, rfl, hk⟩ := x.done
  have noA : ∀ b : Addr, b ∉ (cxOf CX P w K mg base N qual scope f cd A outer s H E).ex := fun b z => absurd (show b ∈ ([] : List Addr) from z) (by simp)
  refine ⟨⟨e0.mod, S.kind, rfl, rfl, Nat.le_refl _, fun y z c h1 h2 => ?_, fun y hy => ?_, fun y c _ h => ?_, fun _ => hd, Around.frames_deeper e0.frames, .inr ⟨rfl, rfl⟩, fun b z => absurd z (noA b), e0.bs, e0.bsz, fun b _ _ => noA b, fun b z => absurd z (noA b), e0.funs, e0.frf⟩,
    rfl, e0.bare, Un.kept hk, ⟨_, x.toInCall.ns, fun i y v h1 h2 h3 => ?_⟩, fun y c h => ⟨_, x.cell y c h⟩, e0.hok.fresh (Nat.le_refl _), fun y c h => ?_, fun p hp => absurd (show p ∈ ([] : List (Addr × Obj)) from hp) (by simp), e0.hok.kept hk, ?_⟩
  · exact name_of_addr x.apart (PySem.mem_of_lookup h1) (PySem.mem_of_lookup h2)
  · have hy : scope.names.lookup y = some .cell ∨ scope.names.lookup y = some .free := hy
    rcases hy with hy | hy
    · exact cell_has hy
    · exact absurd rfl (S.nofree _ (PySem.mem_of_lookup hy))
  · exact Nat.le_of_lt (x.above y c (PySem.mem_of_lookup h))
  · have hi : i < vs.length := by
      unfold start at h2
      by_cases hi : i < vs.length
      · exact hi
      · rw [List.getElem?_append_right (by simpa using hi)] at h2
        rw [List.getElem?_replicate] at h2
        split at h2 <;> cases h2
    have ha : vs[i]? = some v := by
      unfold start at h2
      rw [List.getElem?_append_left (by simpa using hi), List.getElem?_map] at h2
      cases e : vs[i]? with
      | none => rw [e] at h2; cases h2
      | some a => rw [e] at h2; cases h2; rfl
    obtain ⟨u, hu, rv⟩ := r.get ha
    have hp : ps[i]? = some y := by
      rw [← S.pre, List.getElem?_take_of_lt (by omega)]; exact h1
    have ndP : ps.Nodup := by rw [← S.pre]; exact S.nd.sublist (List.take_sublist _ _)
    refine ⟨u, rv, ?_⟩
    rcases S.par y (List.mem_of_getElem? hp) with k | k
    · exact .inl ⟨k, bindL_get ndP hp hu k⟩
    · obtain ⟨c, e⟩ := cell_has (n := s.heap.objs.size + 1) k
      refine .inr ⟨.inl k, c, e, ?_⟩
      have q := x.cell y c e
      rw [bindC_get ndP hp hu (by show scope.names.lookup y ≠ _; rw [k]; decide)] at q
      exact q
  · exact e0.hok.fresh (Nat.le_of_lt (x.above y c (PySem.mem_of_lookup h)))
  · unfold start
    show _ = N.length
    rw [List.length_append, List.length_map, List.length_replicate]
    omega
theorem fn_of {CX : CXT} {P : Program} {w : World} {K : PySem.W.Frag} {mg : Str → Option Value} {base : Heap} {k : Nat} {f : Addr} {name qual : Str} {params : Arguments} {body : List Stmt} {scope : Scope} {dV kV doc pm cdv ct oc : Value} {an od : Option Addr}
    {osl : Array (Option Value)} {N ps : List Str} {sp : Sp} (lk : K.lookup f = some ⟨oc, od, .func (PySem.W.fnOf name qual params body scope dV kV doc pm an cdv ct), osl⟩) (hcd : PySem.W.codeIn K cdv qual = true) (S : FnScope N ps scope)
    (len : ∀ vs H Q E, sp vs H Q E → vs.length = ps.length)
    (hbody : ∀ (A : Around) (outer : List Env) (s : Shared) (H : Hp) (vs : List V) (Q : VK) (E : XK), Room k (A.deeper (envOfC qual scope s.heap.objs.size f cdv)) → sp vs H Q E →
      ∃ t, PSs (cxOf CX P w K mg base N qual scope f cdv A outer s H E) body t ∧ t { nx := fun _ H' => Q .non H', rt := Q } (start N vs) H) :
    FnOk P w K mg base CX (k + 1) f (PySem.W.fnOf name qual params body scope dV kV doc pm an cdv ct) ps sp := by
  refine ⟨len, fun A outer s H args us vs Q E hr e0 hb r hsp => ?_⟩
  have hl := len _ _ _ _ hsp
  have KX : K.In s.heap := e0.mod.kin.keeps fun b o e => (e0.bs b o e).1
  have lim : s.heap.NoLimit := e0.mod.nolimit.keeps fun b o e => (e0.bs b o e).1
  have hkind : ∀ y ∈ ps.zip us, scope.names.lookup y.1 = some .local ∨ (scope.names.lookup y.1 = some .cell ∧ ((cellsFrom (s.heap.objs.size + 1) scope.names []).lookup y.1).isSome = true) := fun ⟨n, v⟩ hy => by
    rcases S.par n (List.of_mem_zip hy).1 with q | q
    · exact .inl q
    · exact .inr ⟨q, PySem.W.cellsFrom_some _ _ _ (.inl q)⟩
  refine codeAny_call_function hr.depth (KX _ _ lk) rfl S.co S.gen rfl (PySem.W.codeRec_of KX hcd) (hb _ _ _ _ ?_)
  refine wpAny_newFunctionEnv_cells S.kind hkind fun env he s1 x => ?_
  subst he
  refine ⟨lim.keeps x.toInCall.keep, codeAny_func ?_⟩
  obtain ⟨t, ht, hq⟩ := hbody A outer s H vs Q E (hr.deeper _) hsp
  have I : Inv (cxOf CX P w K mg base N qual scope f cdv A outer s H E) [] (start N vs) H s1 := inv_start S hr.hd e0 hl r x
  refine wpAny_mono (ht [] s1 (start N vs) H _ I hq) (fun fl s' hs => ?_) fun e s' hs => hs
  have fin : ∀ {σ' : St} {H' : Hp} {v : V} {u : Value}, Inv (cxOf CX P w K mg base N qual scope f cdv A outer s H E) [] σ' H' s' → RelV v u → Q v H' → CE outer P w H s Q u s' :=
    fun {σ' H' v u} J rv q => ⟨v, H', J.os, J.bare, J.base, J.hok, rv, q⟩
  cases fl with
  | ret u =>
    obtain ⟨v, σ', H', J, rv, q⟩ := hs
    exact fin J rv q
  | next =>
    obtain ⟨σ', H', J, q⟩ := hs
    exact fin (v := V.non) (u := Value.none) J rfl q
  | brk =>
    obtain ⟨_, _, _, q⟩ := hs
    exact False.elim q
  | cont =>
    obtain ⟨_, _, _, q⟩ := hs
    exact False.elim q
end L2
namespace L2
open PySem PySem.Spec PyProof.Rows
section
variable {X : Cx} {x : Str} {p pos : Pos} {e : Expr} {es : List Expr} {t : TA} {id T : String} {r : List V → Hp → VK → Prop}
def tCB (r : List V → Hp → VK → Prop) (t : TA) : TE := fun σ H Q => t σ H fun vs H1 => r vs H1 Q
theorem pe_callB (hc : CallR X (.builtin id) r) (hg : Gl X x) (hm : X.mg x = none) (hv : bootBuiltins x = some (.builtin id)) (ha : PA X (e :: es) t) (hn : x ≠ "__name__" := by decide) (hdb : (x == ("__debug__" : Str)) = false := by decide)
    (he : starEach (e :: es) X.env = (false, eval e X.env) :: starEach es X.env := by rfl) (hpl : (backTo pos (starEach es X.env)).any (·.1) = false := by rfl) : PE X (.Call (.Name x p) (e :: es) [] pos) (tCB r t) := by
  intro pins s σ H Q I h
  refine wpAny_Call_Name_kw (ld_blt I hg hm hv ?_ hn hdb)
  exact PyProof.Rows.callWith_builtin1 (thn (ha pos pins s σ H _ I h) fun us s1 ⟨vs, H1, I1, r1, q1⟩ => hc pins s1 σ H1 vs us Q I1 r1 q1) he hpl
theorem pe_callTy (hc : CallR X (.type T) r) (hg : Gl X x) (hm : X.mg x = none) (hv : bootBuiltins x = some (.type T)) (ha : PA X (e :: es) t) (hn : x ≠ "__name__" := by decide) (hdb : (x == ("__debug__" : Str)) = false := by decide)
    (he : starEach (e :: es) X.env = (false, eval e X.env) :: starEach es X.env := by rfl) (hpl : (backTo pos (starEach es X.env)).any (·.1) = false := by rfl) : PE X (.Call (.Name x p) (e :: es) [] pos) (tCB r t) := by
  intro pins s σ H Q I h
  refine wpAny_Call_Name_kw (ld_blt I hg hm hv ?_ hn hdb)
  exact PyProof.Rows.callWith_type1 (thn (ha pos pins s σ H _ I h) fun us s1 ⟨vs, H1, I1, r1, q1⟩ => hc pins s1 σ H1 vs us Q I1 r1 q1) he hpl
end
end L2
namespace HT
open PySem PyProof.Rows
section
open PySem.SeqAt
open PySem.AutoSeq1 (wpAny_loadPart')
open PySem.MeetsSeq PySem.MeetsSeq2 PySem.MeetsSeq3
end
section
variable {prog : Program} {w : World} {A : Around} {E : Value → Shared → Prop} {s : Shared}
def sIx (n d : Nat) : Option Int → Nat
  | none => d
  | some v => if v < 0 then (v + (n : Int)).toNat else min v.toNat n
theorem sIx_none (n d : Nat) : sIx n d none = d := rfl
theorem sIx_nat (n d k : Nat) : sIx n d (some (k : Int)) = min k n := by
  show (if (k : Int) < 0 then ((k : Int) + (n : Int)).toNat else min (k : Int).toNat n) = min k n
  rw [if_neg (by omega), Int.toNat_natCast]
end
end HT
namespace L2
open PySem PySem.Spec PyProof.Rows
abbrev TO := St → Hp → (Option Int → Hp → Prop) → Prop
def PO (X : Cx) (e : Option Expr) (t : TO) : Prop :=
  ∀ (pins : List (Addr × Obj)) (s : Shared) (σ : St) (H : Hp) (Q : Option Int → Hp → Prop), Inv X pins σ H s → t σ H Q →
    wpAny (model X.prog X.w) X.A (evalPart e X.env) (fun u s' => ∃ o H', Inv X pins σ H' s' ∧ IsPart u o ∧ Q o H') X.xe s
def tNoPart : TO := fun _ H Q => Q none H
def tPart (t : TE) : TO := fun σ H Q => t σ H fun x H1 => ∃ i, x = .int i ∧ Q (some i) H1
theorem intsAre_of {ns : List Int} : ∀ {us : List Value}, Vals (ns.map V.int) us → IntsAre us ns := by
  induction ns with
  | nil => intro us r; rw [List.map_nil] at r; cases r; exact .nil
  | cons n ns ih =>
    intro us r
    rw [List.map_cons] at r
    cases r with
    | cons r1 r2 =>
      obtain ⟨t, e⟩ := r1
      subst e
      exact .cons n t (ih r2)
section
variable {X : Cx} {e : Expr} {te : TE} {lo hi : Option Expr} {tl th : TO} {pos p2 : Pos}
theorem po_none : PO X none tNoPart := by
  intro pins s σ H Q I h
  rw [evalPart_none]
  exact wpAny_pure ⟨none, H, I, .none, h⟩
theorem po_some (h : PE X e te) : PO X (some e) (tPart te) := by
  intro pins s σ H Q I hw
  rw [evalPart_some]
  refine thn (h pins s σ H _ I hw) fun u s1 ⟨x, H1, I1, r1, q1⟩ => ?_
  obtain ⟨i, rfl, q⟩ := q1
  obtain ⟨t, rfl⟩ := r1
  exact ⟨some i, H1, I1, .int i t, q⟩
def SlR (X : Cx) (r : V → Option Int → Option Int → Hp → VK → Prop) : Prop :=
  ∀ (pins : List (Addr × Obj)) (s : Shared) (σ : St) (H : Hp) (x : V) (v vl vu : Value) (lo hi : Option Int) (sl : Addr) (Q : VK), Inv X pins σ H s → RelV x v → s.heap.IsSliceOf sl vl vu .none → IsPart vl lo → IsPart vu hi → r x lo hi H Q →
    ∃ T id, typeLookup (.type T) "__getitem__" = pure (some (.builtin id)) ∧ s.TypeIs v T ∧ wpAny (model X.prog X.w) X.A (getItem v (.ref sl)) (EP X pins σ Q) X.xe s
theorem SlR.or {r r' : V → Option Int → Option Int → Hp → VK → Prop} (h : SlR X r) (h' : SlR X r') : SlR X (fun x lo hi H Q => r x lo hi H Q ∨ r' x lo hi H Q) := by
  intro pins s σ H x v vl vu lo hi sl Q I rx hs pl pu q
  rcases q with q | q
  · exact h pins s σ H x v vl vu lo hi sl Q I rx hs pl pu q
  · exact h' pins s σ H x v vl vu lo hi sl Q I rx hs pl pu q
def tSl (r : V → Option Int → Option Int → Hp → VK → Prop) (te : TE) (tl th : TO) : TE := fun σ H Q => te σ H fun x H1 => tl σ H1 fun l H2 => th σ H2 fun u H3 => r x l u H3 Q
theorem pe_slice {r : V → Option Int → Option Int → Hp → VK → Prop} (hr : SlR X r) (he : PE X e te) (hl : PO X lo tl) (hu : PO X hi th) : PE X (.Subscript e (.Slice lo hi none p2) pos) (tSl r te tl th) := by
  intro pins s σ H Q I h
  refine Subscript_ (thn (he pins s σ H _ I h) fun v s1 ⟨x, H1, I1, r1, q1⟩ => ?_)
  refine wpAny_Slice (thn (hl pins s1 σ H1 _ I1 q1) fun vl s2 ⟨l, H2, I2, pl, q2⟩ => thn (hu pins s2 σ H2 _ I2 q2) fun vu s3 ⟨u, H3, I3, pu, q3⟩ => ?_)
  rw [evalPart_none]
  refine wpAny_pure ?_
  have I4 : Inv X pins σ H3 { s3 with heap := s3.heap.push { cls := .type "slice", data := .fields #[vl, vu, .none] } } := I3.kept (t' := s3.toks) fun b ob q => Heap.get?_push_of_some _ q
  obtain ⟨T, id, hT, ht, hg⟩ := hr pins { s3 with heap := s3.heap.push { cls := .type "slice", data := .fields #[vl, vu, .none] } } σ H3 x v vl vu l u s3.heap.objs.size Q I4 r1 (Heap.IsSliceOf.new ..) pl pu q3
  show wpAny (model X.prog X.w) X.A (subscriptTail e (.Slice lo hi none p2) v (.ref s3.heap.objs.size)) (EP X pins σ Q) X.xe { s3 with heap := s3.heap.push { cls := .type "slice", data := .fields #[vl, vu, .none] } }
  exact tail_any (ops := [.ref s3.heap.objs.size, v]) ht hT hg (by with_unfolding_all rfl)
def cutV (xs : List V) (lo hi : Option Int) : List V := (xs.drop (HT.sIx xs.length 0 lo)).take (HT.sIx xs.length xs.length hi - HT.sIx xs.length 0 lo)
theorem cutV_length (xs : List V) (lo hi : Option Int) : (cutV xs lo hi).length ≤ xs.length := by
  unfold cutV
  rw [List.length_take, List.length_drop]
  omega
end
end L2
namespace L2
open PySem PySem.Spec PyProof.Rows
def ixN (n : Nat) (i : Int) : Option Nat := if 0 ≤ i then (if i < n then some i.toNat else none) else if -(n : Int) ≤ i then some (i + n).toNat else none
def atI {α : Type} (xs : List α) (i : Int) : Option α := (ixN xs.length i).bind fun j => xs[j]?
theorem ixN_seq {n : Nat} {i : Int} {j : Nat} (h : ixN n i = some j) : seqIndex? i n = some j ∧ j < n ∧ -(n : Int) ≤ i ∧ i < n := by
  unfold ixN at h
  by_cases h0 : 0 ≤ i
  · rw [if_pos h0] at h
    by_cases h1 : i < n
    · rw [if_pos h1] at h
      have e : i.toNat = j := Option.some.inj h
      exact ⟨by rw [seqIndex_of h0 h1, e], by omega, by omega, h1⟩
    · rw [if_neg h1] at h; cases h
  · rw [if_neg h0] at h
    by_cases h1 : -(n : Int) ≤ i
    · rw [if_pos h1] at h
      have e : (i + n).toNat = j := Option.some.inj h
      exact ⟨by rw [seqIndex_neg (by omega) h1, e], by omega, h1, by omega⟩
    · rw [if_neg h1] at h; cases h
theorem atI_get {α : Type} {xs : List α} {i : Int} {v : α} (h : atI xs i = some v) : ∃ j, seqIndex? i xs.length = some j ∧ xs[j]? = some v ∧ j < xs.length ∧ -(xs.length : Int) ≤ i ∧ i < xs.length := by
  unfold atI at h
  cases e : ixN xs.length i with
  | none => rw [e] at h; cases h
  | some j =>
    rw [e] at h
    obtain ⟨h1, h2, h3, h4⟩ := ixN_seq e
    exact ⟨j, h1, h, h2, h3, h4⟩
theorem atI_nat {α : Type} {xs : List α} {j : Nat} {v : α} (h : xs[j]? = some v) : atI xs (j : Int) = some v := by
  have hj : j < xs.length := (List.getElem?_eq_some_iff.mp h).1
  have e : ixN xs.length (j : Int) = some j := by
    unfold ixN
    rw [if_pos (by omega), if_pos (by omega)]; simp
  unfold atI; rw [e]; exact h
def PlainIx (b : Expr) : Prop := ∀ o i, subscripted b false o i = operate [o, i] (getItem o i)
def IxR (X : Cx) (r : R2) : Prop :=
  ∀ (value slice : Expr) (pins : List (Addr × Obj)) (s : Shared) (σ : St) (H : Hp) (x y : V) (v u : Value) (Q : VK), Inv X pins σ H s → RelV x v → RelV y u → r x y H Q →
    subscripted slice false v u = operate [v, u] (getItem v u) → wpAny (model X.prog X.w) X.A (subscriptTail value slice v u) (EP X pins σ Q) X.xe s
def MtR (X : Cx) (id : String) (r : V → List V → Hp → VK → Prop) : Prop :=
  ∀ (pins : List (Addr × Obj)) (s : Shared) (σ : St) (H : Hp) (x : V) (xs : List V) (v : Value) (us : List Value) (Q : VK), Inv X pins σ H s → RelV x v → Vals xs us → r x xs H Q →
    wpAny (model X.prog X.w) X.A (call (.builtin id) (v :: us)) (EP X pins σ Q) X.xe s
section
variable {X : Cx} {a b : Expr} {ta tb : TE} {pos : Pos}
theorem IxR.or {r r' : R2} (h : IxR X r) (h' : IxR X r') : IxR X (fun x y H Q => r x y H Q ∨ r' x y H Q) := by
  intro value slice pins s σ H x y v u Q I rx ry q hs
  rcases q with q | q
  · exact h value slice pins s σ H x y v u Q I rx ry q hs
  · exact h' value slice pins s σ H x y v u Q I rx ry q hs
theorem MtR.or {id : String} {r r' : V → List V → Hp → VK → Prop} (h : MtR X id r) (h' : MtR X id r') : MtR X id (fun x xs H Q => r x xs H Q ∨ r' x xs H Q) := by
  intro pins s σ H x xs v us Q I rx rs q
  rcases q with q | q
  · exact h pins s σ H x xs v us Q I rx rs q
  · exact h' pins s σ H x xs v us Q I rx rs q
theorem pe_ix {r : R2} (hr : IxR X r) (ha : PE X a ta) (hb : PE X b tb) (hs : PlainIx b) : PE X (.Subscript a b pos) (tOp r ta tb) := by
  intro pins s σ H Q I h
  exact Subscript_ (binT ha hb I h fun v u s2 x y H2 I2 rx ry q => hr a b pins s2 σ H2 x y v u Q I2 rx ry q (hs _ _))
def rIxL (K : PySem.W.Frag) : R2 := fun x y H Q => ∃ p xs i v, x = .ref p ∧ y = .int i ∧ SqL K H p xs ∧ atI xs i = some v ∧ Q v H
def rIxT (K : PySem.W.Frag) : R2 := fun x y H Q => ∃ p xs i v, x = .ref p ∧ y = .int i ∧ SqT K H p xs ∧ atI xs i = some v ∧ Q v H
theorem ix_list : IxR X (rIxL X.K) := by
  intro value slice pins s σ H x y v u Q I rx ry h hs
  obtain ⟨p, xs, i, z, rfl, rfl, hq, he, q⟩ := h
  cases rx
  obtain ⟨t, rfl⟩ := ry
  obtain ⟨its, r, pl, hz⟩ := I.list hq
  obtain ⟨j, h1, h2, h3, h4, h5⟩ := atI_get he
  obtain ⟨w, ew, rw'⟩ := r.get h2
  have hl := r.length
  have hn := line63
  have fin : EP X pins σ Q w s := ⟨z, H, I, rw', q⟩
  by_cases h0 : 0 ≤ i
  · have hj : i.toNat = j := by
      rw [seqIndex_of h0 h5] at h1
      exact Option.some.inj h1
    exact item_listR pl.isList h0 (by omega) (by rw [hj]; simpa using ew) fin hs
  · have hj : (i + (its.toArray.size : Int)).toNat = j := by
      rw [seqIndex_neg (by omega) h4] at h1
      rw [List.size_toArray, ← hl]
      exact Option.some.inj h1
    exact subscriptTail_builtinR (x := w) pl.isList.typeIs slot_list_getitem.lookup
      (wpAny_getItem_list_neg (Q := fun r s' => r = w ∧ EP X pins σ Q r s') pl.isList (by omega) (by rw [List.size_toArray] <;> omega) (by omega) (by rw [hj]; simpa using ew) ⟨rfl, fin⟩) hs
theorem ix_tup : IxR X (rIxT X.K) := by
  intro value slice pins s σ H x y v u Q I rx ry h hs
  obtain ⟨p, xs, i, z, rfl, rfl, hq, he, q⟩ := h
  cases rx
  obtain ⟨t, rfl⟩ := ry
  obtain ⟨its, r, pl, hz⟩ := I.tuple hq
  obtain ⟨j, h1, h2, h3, h4, h5⟩ := atI_get he
  obtain ⟨w, ew, rw'⟩ := r.get h2
  have hl := r.length
  have hn := line63
  have fin : EP X pins σ Q w s := ⟨z, H, I, rw', q⟩
  exact subscriptTail_builtinR (x := w) pl.typeIs slot_tuple_getitem.lookup
    (getItem_tuple (j := j) (Q := fun r s' => r = w ∧ EP X pins σ Q r s') pl (by omega) (by omega) (by rw [List.size_toArray, ← hl]; exact h1) (by simpa using ew) ⟨rfl, fin⟩) hs
theorem mapSeq_set (its : List Value) (n j : Nat) (u : Value) : Obj.mapSeq (·.setIfInBounds j u) { cls := .type "list", data := .seq its.toArray n } = { cls := .type "list", data := .seq (its.set j u).toArray n } := by
  simp [Obj.mapSeq]
theorem Inv.lst {pins : List (Addr × Obj)} {σ : St} {H : Hp} {s : Shared} {p : Addr} {xs : List V} (I : Inv X pins σ H s) (h : H p = some (.lst xs)) :
    ∃ (its : List Value) (n : Nat), Vals xs its ∧ s.heap.get? p = some { cls := .type "list", data := .seq its.toArray n } ∧ xs.length ≤ sizeLine := by
  obtain ⟨z, its, n, r, e⟩ := I.hok p _ h
  exact ⟨its, n, r, e, z⟩
theorem Inv.lstUpd {pins : List (Addr × Obj)} {σ : St} {H : Hp} {s : Shared} {p : Addr} {xs ys : List V} {its its' : List Value} {n n' : Nat} {f : Obj → Obj} (I : Inv X pins σ H s) (h : H p = some (.lst xs))
    (ho : s.heap.get? p = some { cls := .type "list", data := .seq its.toArray n }) (hf : f { cls := .type "list", data := .seq its.toArray n } = { cls := .type "list", data := .seq its'.toArray n' }) (r : Vals ys its') (hz : ys.length ≤ sizeLine) (t : Nat) :
    Inv X pins σ (upd H p (.lst ys)) { s with heap := s.heap.update p f, toks := t } := by
  have e : (s.heap.update p f).get? p = some { cls := .type "list", data := .seq its'.toArray n' } := by
    rw [Heap.get?_update_self f ho (by rw [hf] <;> rfl), hf]
  refine I.write (x := p) (e := p) (by rw [h]; trivial) (.inl rfl) (fun b u hb q => (Heap.get?_update_other _ _ (Ne.symm hb)).trans q) ⟨_, e⟩ ?_
  exact ⟨hz, its', n', r, e⟩
def rSetL : V → V → V → Hp → (Hp → Prop) → Prop := fun o i v H Q => ∃ p xs k j, o = .ref p ∧ i = .int k ∧ H p = some (.lst xs) ∧ ixN xs.length k = some j ∧ Q (upd H p (.lst (xs.set j v)))
theorem set_list : PSet X rSetL := by
  intro pins s σ H o i v ov iv u Q I ro ri rv h
  obtain ⟨p, xs, k, j, rfl, rfl, hp, hj, q⟩ := h
  cases ro
  obtain ⟨t, rfl⟩ := ri
  obtain ⟨its, n, r, ho, hz⟩ := I.lst hp
  obtain ⟨h1, h2, h3, h4⟩ := ixN_seq hj
  have hl := r.length
  have hn := line63
  have I' : Inv X pins σ (upd H p (.lst (xs.set j v))) { s with heap := s.heap.update p (Obj.mapSeq (·.setIfInBounds j u)) } :=
    I.lstUpd hp ho (mapSeq_set its n j u) (r.set rv j) (by rw [List.length_set]; exact hz) s.toks
  by_cases h0 : 0 ≤ k
  · have hk : k.toNat = j := by
      rw [seqIndex_of h0 h4] at h1
      exact Option.some.inj h1
    exact PySem.W.ki_setAt ho h0 (by omega) (by rw [List.size_toArray, ← hl]; exact h4) (by rw [hk]; exact ⟨_, I', q⟩)
  · have hk : (k + (its.toArray.size : Int)).toNat = j := by
      rw [seqIndex_neg (by omega) h3] at h1
      rw [List.size_toArray, ← hl]
      exact Option.some.inj h1
    exact PySem.W.ki_setBack ho (by omega) (by rw [List.size_toArray, ← hl]; exact h3) (by omega) (by rw [hk]; exact ⟨_, I', q⟩)
theorem slice_bounds (lo hi : Option Int) (n : Nat) : (sliceBounds lo hi none n).1 = ((HT.sIx n 0 lo : Nat) : Int) ∧ (sliceBounds lo hi none n).2.1 = ((HT.sIx n n hi : Nat) : Int) ∧ (sliceBounds lo hi none n).2.2 = 1 := by
  refine ⟨?_, ?_, rfl⟩
  · cases lo with
    | none => simp [sliceBounds, HT.sIx]
    | some i =>
      simp only [sliceBounds, HT.sIx, Option.getD_none, show (1 : Int) > 0 by decide, if_true]
      by_cases h : i < 0
      · simp only [h, if_true] <;> omega
      · simp only [h, if_false] <;> omega
  · cases hi with
    | none => simp [sliceBounds, HT.sIx]
    | some i =>
      simp only [sliceBounds, HT.sIx, Option.getD_none, show (1 : Int) > 0 by decide, if_true]
      by_cases h : i < 0
      · simp only [h, if_true] <;> omega
      · simp only [h, if_false] <;> omega
theorem slicePick_cut (its : List Value) (lo hi : Option Int) : slicePick its.toArray lo hi none = ((its.drop (HT.sIx its.length 0 lo)).take (HT.sIx its.length its.length hi - HT.sIx its.length 0 lo)).toArray := by
  obtain ⟨h1, h2, h3⟩ := slice_bounds lo hi its.toArray.size
  unfold slicePick
  rw [h1, h2, h3]
  simp only [sliceRange_one, pick_run, List.size_toArray] <;> rfl
def rSlL (K : PySem.W.Frag) : V → Option Int → Option Int → Hp → VK → Prop := fun x lo hi H Q => ∃ a xs, x = .ref a ∧ SqL K H a xs ∧ ∀ p, H p = none → Q (.ref p) (upd H p (.lst (cutV xs lo hi)))
theorem sl_list : SlR X (rSlL X.K) := by
  intro pins s σ H x v vl vu lo hi sl Q I rx hs pl pu h
  obtain ⟨a, xs, rfl, hx, q⟩ := h
  cases rx
  obtain ⟨its, r, ht, hz⟩ := I.list hx
  have hlen := r.length
  refine ⟨"list", _, slot_list_getitem.lookup, ht.isList.typeIs, ?_⟩
  refine wpAny_getItem_list_slice ht.isList hs pl pu .none (by simp) ?_ (by rw [List.size_toArray] <;> omega)
  rw [slicePick_cut, ← hlen]
  refine ⟨.ref s.heap.objs.size, _, I.laid (t' := s.toks) (o := .lst (cutV xs lo hi)) (fun b ob q => Heap.get?_push_of_some _ q) (Nat.le_refl _) ?_, rfl, q _ (I.hok.fresh (Nat.le_refl _))⟩
  exact ⟨Nat.le_trans (cutV_length xs lo hi) hz, _, 0, (r.drop (HT.sIx xs.length 0 lo)).take (HT.sIx xs.length xs.length hi - HT.sIx xs.length 0 lo), Heap.get?_push_size _ rfl⟩
def flatV : V → Bool
  | .non => true
  | .bl _ => true
  | .int _ => true
  | .str _ => true
  | _ => false
def eqV : V → V → Bool
  | .non, .non => true
  | .bl a, .bl b => a == b
  | .bl a, .int b => (if a then 1 else 0) == b
  | .int a, .bl b => a == (if b then 1 else 0)
  | .int a, .int b => a == b
  | .str a, .str b => a == b
  | _, _ => false
theorem eqAt_V {A : Around} {s : Shared} {y x : V} {u v : Value} (ry : RelV y u) (rx : RelV x v) (fy : flatV y = true) (fx : flatV x = true) : SeqAt.EqAt A s u v (eqV y x) := by
  cases y with
  | non =>
    cases ry
    cases x with
    | non => cases rx; exact SeqAt.EqAt.same _
    | bl b => cases rx; exact SeqAt.EqAt.none_bool b
    | int b => obtain ⟨t, rfl⟩ := rx; exact SeqAt.EqAt.none_int b t
    | str b => obtain ⟨t, rfl⟩ := rx; exact SeqAt.EqAt.none_str b t
    | _ => exact absurd (show false = true from fx) Bool.false_ne_true
  | bl a =>
    cases ry
    cases x with
    | non => cases rx; exact SeqAt.EqAt.bool_none a
    | bl b => cases rx; exact SeqAt.EqAt.bool_bool a b
    | int b => obtain ⟨t, rfl⟩ := rx; exact SeqAt.EqAt.bool_int a b t
    | str b => obtain ⟨t, rfl⟩ := rx; exact SeqAt.EqAt.bool_str a b t
    | _ => exact absurd (show false = true from fx) Bool.false_ne_true
  | int a =>
    obtain ⟨t', rfl⟩ := ry
    cases x with
    | non => cases rx; exact SeqAt.EqAt.int_none a t'
    | bl b => cases rx; exact SeqAt.EqAt.int_bool a t' b
    | int b => obtain ⟨t, rfl⟩ := rx; exact SeqAt.EqAt.int_int a t' b t
    | str b => obtain ⟨t, rfl⟩ := rx; exact SeqAt.EqAt.int_str a t' b t
    | _ => exact absurd (show false = true from fx) Bool.false_ne_true
  | str a =>
    obtain ⟨t', rfl⟩ := ry
    cases x with
    | non => cases rx; exact SeqAt.EqAt.str_none a t'
    | bl b => cases rx; exact SeqAt.EqAt.str_bool a t' b
    | int b => obtain ⟨t, rfl⟩ := rx; exact SeqAt.EqAt.str_int a t' b t
    | str b => obtain ⟨t, rfl⟩ := rx; exact SeqAt.EqAt.str_str a t' b t
    | _ => exact absurd (show false = true from fx) Bool.false_ne_true
  | _ => exact absurd (show false = true from fy) Bool.false_ne_true
theorem call_len_seq : CallR X (.builtin "len") (fun xs H Q => ∃ p ys, xs = [.ref p] ∧ (SqL X.K H p ys ∨ SqT X.K H p ys) ∧ Q (.int ys.length) H) := by
  intro pins s σ H xs us Q I r h
  obtain ⟨p, ys, rfl, hq, q⟩ := h
  obtain ⟨u, rfl, rx⟩ := vals1 r
  cases rx
  have hn := line63
  rcases hq with hq | hq
  · obtain ⟨its, r', pl, hz⟩ := I.list hq
    have hlen := r'.length
    exact Calls.call_len_list pl.isList (by simp only [List.size_toArray] <;> omega) ⟨.int ys.length, H, I.tok _, ⟨s.toks + 1, by rw [List.size_toArray, hlen]⟩, q⟩
  · obtain ⟨its, r', pl, hz⟩ := I.tuple hq
    have hlen := r'.length
    exact len_tuple pl (by simp only [List.size_toArray] <;> omega) ⟨.int ys.length, H, I.tok _, ⟨s.toks + 1, by rw [List.size_toArray, hlen]⟩, q⟩
theorem CallR.or {f : Value} {r r' : List V → Hp → VK → Prop} (h : CallR X f r) (h' : CallR X f r') : CallR X f (fun xs H Q => r xs H Q ∨ r' xs H Q) := by
  intro pins s σ H xs us Q I rs q
  rcases q with q | q
  · exact h pins s σ H xs us Q I rs q
  · exact h' pins s σ H xs us Q I rs q
theorem call_list_of : CallR X (.type "list") (fun xs H Q => ∃ p ys, xs = [.ref p] ∧ (SqL X.K H p ys ∨ SqT X.K H p ys) ∧ ∀ l, H l = none → Q (.ref l) (upd H l (.lst ys))) := by
  intro pins s σ H xs us Q I r h
  obtain ⟨p, ys, rfl, hq, q⟩ := h
  obtain ⟨u, rfl, rx⟩ := vals1 r
  cases rx
  have fin : ∀ (its : List Value), Vals ys its → ys.length ≤ sizeLine → ∀ (h' : Heap) (c' : Nat), (∀ b o', s.heap.get? b = some o' → h'.get? b = some o') →
      h'.get? s.heap.objs.size = some { cls := .type "list", dict := none, data := .seq its.toArray c', slots := #[] } → EP X pins σ Q (.ref s.heap.objs.size) { s with heap := h' } := fun its r' hz h' c' kp e =>
    ⟨.ref s.heap.objs.size, _, I.laid (t' := s.toks) kp (Nat.le_refl _) (show ObjOk X.prog X.w _ h' _ (.lst ys) from ⟨hz, its, c', r', e⟩), rfl, q _ (I.hok.fresh (Nat.le_refl _))⟩
  rcases hq with hq | hq
  · obtain ⟨its, r', pl, hz⟩ := I.list hq
    have hlen := r'.length
    obtain ⟨o, ho, hc, n, hd⟩ := pl.isList
    exact call_list_seq p (.inl rfl) ho hc hd (fun h' c' kp e => fin its r' hz h' c' kp e) (by simp only [List.size_toArray] <;> omega)
  · obtain ⟨its, r', pl, hz⟩ := I.tuple hq
    have hlen := r'.length
    obtain ⟨o, ho, hc, n, hd⟩ := pl
    exact call_list_seq p (.inr rfl) ho hc hd (fun h' c' kp e => fin its r' hz h' c' kp e) (by simp only [List.size_toArray] <;> omega)
def tyV (K : PySem.W.Frag) (T : String) (x : V) (H : Hp) : Prop := match x with
  | .str _ => T = "str"
  | .int _ => T = "int"
  | .ref p => (T = "list" ∧ ∃ xs, SqL K H p xs) ∨ (T = "tuple" ∧ ∃ o, K.lookup p = some o ∧ o.cls = .type "tuple" ∧ o.dict = none) ∨
      (T = "dict" ∧ ((∃ kvs, H p = some (.dK kvs)) ∨ ∃ kvs, H p = some (.dT kvs))) ∨ (T = "set" ∧ ∃ S n, H p = some (.set S n))
  | _ => False
theorem tyV_is {pins : List (Addr × Obj)} {σ : St} {H : Hp} {s : Shared} {T : String} {x : V} {v : Value} (I : Inv X pins σ H s) (r : RelV x v) (ty : tyV X.K T x H) :
    s.TypeIs v T ∧ ∀ a, v = .ref a → ∃ ob, s.heap.get? a = some ob ∧ ob.dict = none := by
  cases x with
  | str z =>
    obtain ⟨t, rfl⟩ := r
    cases (show T = "str" from ty)
    exact ⟨typeIs_str s z t, fun _ e => nomatch e⟩
  | int i =>
    obtain ⟨t, rfl⟩ := r
    cases (show T = "int" from ty)
    exact ⟨typeIs_int s i t, fun _ e => nomatch e⟩
  | ref p =>
    cases r
    rcases ty with ⟨rfl, xs, hq⟩ | ⟨rfl, o, hk, hc, hd⟩ | ⟨rfl, hk⟩ | ⟨rfl, S, n, hk⟩
    · obtain ⟨its, _, pl, _⟩ := I.list hq
      refine ⟨pl.isList.typeIs, fun a e => ?_⟩
      cases e
      obtain ⟨o, n, e, c, hd, _⟩ := pl
      exact ⟨o, e, hd⟩
    · refine ⟨⟨o, I.kIn p o hk, hc⟩, fun a e => ?_⟩
      cases e
      exact ⟨o, I.kIn _ o hk, hd⟩
    · have z : ∃ o, s.heap.get? p = some o ∧ o.ExactDict := by
        rcases hk with ⟨kvs, hk⟩ | ⟨kvs, hk⟩
        · obtain ⟨_, _, _, _, o, _, _, e, ex, _⟩ := I.hok p _ hk
          exact ⟨o, e, ex⟩
        · obtain ⟨_, _, _, _, o, _, _, e, ex, _⟩ := I.hok p _ hk
          exact ⟨o, e, ex⟩
      obtain ⟨o, e, ex⟩ := z
      refine ⟨⟨o, e, ex.1⟩, fun a e2 => ?_⟩
      cases e2
      exact ⟨o, e, ex.2.1⟩
    · obtain ⟨o, _, _, _, e, ex, _⟩ := I.hok p _ hk
      refine ⟨⟨o, e, ex.1⟩, fun a e2 => ?_⟩
      cases e2
      exact ⟨o, e, ex.2.1⟩
  | _ => exact False.elim ty
def tBM (K : PySem.W.Frag) (T : String) (r : V → List V → Hp → VK → Prop) (to : TE) (t : TA) : TE := fun σ H Q => to σ H fun x H1 => tyV K T x H1 ∧ t σ H1 fun xs H2 => r x xs H2 Q
variable {o e : Expr} {es : List Expr} {to : TE} {t : TA} {name : Str} {apos cpos : Pos} {T id : String} {r : V → List V → Hp → VK → Prop}
theorem pe_bm (pa : PlainAttrs T) (slot : Slot T name id) (hty : typeOf (.builtin id) = pure (.type "method_descriptor")) (hm : MtR X id r) (ho : PE X o to) (ha : PA X (e :: es) t)
    (hbase : attributeBase o name X.env (eval o X.env) = eval o X.env := by rfl)
    (hfew : ((backTo cpos (starEach (e :: es) X.env)).all (fun x => !x.1) && (backToKw cpos (keywordEach [] X.env)).all (fun x => x.1.isSome)
      && decide ((e :: es).length + ([] : List Keyword).length + (if ([] : List Keyword).isEmpty then 0 else 1) < 30)) = true := by rfl)
    (hline : (apos.endLine == cpos.line) = true := by rfl) (hs : starEach (e :: es) X.env = (false, eval e X.env) :: starEach es X.env := by rfl) (hplain : (backTo cpos (starEach es X.env)).any (·.1) = false := by rfl) :
    PE X (.Call (.Attribute o name apos) (e :: es) [] cpos) (tBM X.K T r to t) := by
  intro pins s σ H Q I h
  refine wpAny_Call_method_late hbase hfew hline rfl (thn (ho pins s σ H _ I h) fun v s1 ⟨x, H1, I1, r1, ty, q1⟩ => ?_)
  obtain ⟨h1, h2⟩ := tyV_is I1 r1 ty
  refine ⟨T, id, pa, slot, hty, h1, h2, ?_⟩
  have hA := ha cpos pins s1 σ H1 _ I1 q1
  rw [hs] at hA ⊢
  refine Calls.callWith_builtin (by show (false || (backTo cpos (starEach es X.env)).any (·.1)) = false; rw [hplain] <;> rfl) (Calls.evalArgs_plain ?_)
  exact thn hA fun us s2 ⟨vs, H2, I2, r2, q2⟩ => hm pins s2 σ H2 x vs v us Q I2 r1 r2 q2
end
end L2
namespace L2
open PySem PySem.Spec PyProof.Rows
def MtM (X : Cx) (id : String) (r : V → List V → Hp → VK → Prop) : Prop :=
  ∀ (pins : List (Addr × Obj)) (s : Shared) (σ : St) (H : Hp) (x : V) (xs : List V) (v : Value) (us : List Value) (Q : VK), Inv X pins σ H s → RelV x v → Vals xs us → r x xs H Q →
    wpAny (model X.prog X.w) X.A (call (.builtin id) (v :: us)) (EP X pins σ Q) X.xe s
theorem Vals.one : ∀ {x : V} {us : List Value}, Vals [x] us → ∃ u, us = [u] ∧ RelV x u
  | _, _, .cons r .nil => ⟨_, rfl, r⟩
theorem Vals.two : ∀ {x y : V} {us : List Value}, Vals [x, y] us → ∃ u v, us = [u, v] ∧ RelV x u ∧ RelV y v
  | _, _, _, .cons r (.cons q .nil) => ⟨_, _, rfl, r, q⟩
theorem Vals.zero : ∀ {us : List Value}, Vals [] us → us = []
  | _, .nil => rfl
theorem Vals.eraseIdx : ∀ {xs : List V} {us : List Value} (i : Nat), Vals xs us → Vals (xs.eraseIdx i) (us.eraseIdx i)
  | _, _, _, .nil => .nil
  | _, _, 0, .cons _ t => t
  | _, _, i + 1, .cons r t => .cons r (Vals.eraseIdx i t)
theorem Vals.reverse {xs : List V} {us : List Value} (h : Vals xs us) : Vals xs.reverse us.reverse := by
  induction h with
  | nil => exact .nil
  | cons r t ih => rw [List.reverse_cons, List.reverse_cons]; exact Vals.append ih (.cons r .nil)
section
variable {X : Cx} {pins : List (Addr × Obj)} {σ : St} {H : Hp} {s : Shared} {l b : Addr} {xs ys zs : List V}
theorem Inv.lset {its its' : List Value} {n : Nat} {f : Array Value → Array Value} {t' : Nat} (I : Inv X pins σ H s) (hH : H l = some (.lst xs))
    (e : s.heap.get? l = some { cls := .type "list", data := .seq its.toArray n }) (hf : f its.toArray = its'.toArray) (hv : Vals ys its') (hz : ys.length ≤ sizeLine) :
    Inv X pins σ (upd H l (.lst ys)) { s with heap := s.heap.update l (Obj.mapSeq f), toks := t' } := by
  have q := PySem.IsL.update e f
  rw [hf] at q
  refine I.write (x := l) (e := l) (by rw [hH]; exact trivial) (.inl rfl) (fun b' u hb hu => (Heap.get?_update_other s.heap (Obj.mapSeq f) (Ne.symm hb)).trans hu) ⟨_, q⟩ ?_
  exact ⟨hz, its', _, hv, q⟩
theorem Inv.lnew {its : List Value} {t' : Nat} (I : Inv X pins σ H s) (hv : Vals ys its) (hz : ys.length ≤ sizeLine) :
    Inv X pins σ (upd H s.heap.objs.size (.lst ys)) { s with heap := s.heap.push { cls := .type "list", data := .seq its.toArray }, toks := t' } :=
  I.laid (fun _ _ q => Heap.get?_push_of_some _ q) (Nat.le_refl _) ⟨hz, its, 0, hv, Heap.get?_push_size _ rfl⟩
theorem Inv.fresh (I : Inv X pins σ H s) : H s.heap.objs.size = none := I.hok.fresh (Nat.le_refl _)
theorem Inv.lstM (I : Inv X pins σ H s) (hH : H l = some (.lst xs)) : xs.length ≤ sizeLine ∧ ∃ (its : List Value) (n : Nat), Vals xs its ∧ xs.length = its.length ∧ s.heap.get? l = some { cls := .type "list", data := .seq its.toArray n } := by
  obtain ⟨z, its, n, r, e⟩ := I.hok l _ hH
  exact ⟨z, its, n, r, r.length, e⟩
end
section
variable {X : Cx}
def rAppend : V → List V → Hp → VK → Prop := fun x vs H Q => ∃ l xs y, x = .ref l ∧ vs = [y] ∧ H l = some (.lst xs) ∧ xs.length < sizeLine ∧ Q .non (upd H l (.lst (xs ++ [y])))
theorem mt_append : MtM X "list.append" rAppend := by
  intro pins s σ H x vs v us Q I rx rv h
  obtain ⟨l, xs, y, rfl, rfl, hH, hz, q⟩ := h
  cases rx
  obtain ⟨u, rfl, ru⟩ := rv.one
  obtain ⟨z, its, n, r, hl, e⟩ := I.lstM hH
  refine call_meets F.slot_list_append ⟨_, e, rfl⟩ F.entry_list_append (F.args_list_append_2 _ _) (PySem.list_append l its.toArray n u (by rw [List.size_toArray]; omega)) ⟨e, ?_⟩
  refine ⟨.non, _, I.lset (its' := its ++ [u]) hH e (by simp) (r.append (.cons ru .nil)) ?_, rfl, q⟩
  rw [List.length_append, List.length_singleton]
  omega
def rCat : R2 := fun x y H Q => ∃ l b xs zs, x = .ref l ∧ y = .ref b ∧ H l = some (.lst xs) ∧ H b = some (.lst zs) ∧ xs.length + zs.length ≤ sizeLine ∧ ∀ p, H p = none → Q (.ref p) (upd H p (.lst (xs ++ zs)))
theorem op_cat : OpR X (binaryOp .Add) rCat := by
  intro pins s σ H x y v u Q I rx ry h
  obtain ⟨l, b, xs, zs, rfl, rfl, hH, hB, hz, q⟩ := h
  cases rx
  cases ry
  obtain ⟨z, its, n, r, hl, e⟩ := I.lstM hH
  obtain ⟨z2, its2, n2, r2, hl2, e2⟩ := I.lstM hB
  refine PySem.P.add_list e e2 ?_ (by rw [List.size_toArray, List.size_toArray]; omega)
  have ea : its.toArray ++ its2.toArray = (its ++ its2).toArray := by simp
  rw [ea]
  exact ⟨.ref _, _, I.lnew (t' := s.toks) (r.append r2) (by rw [List.length_append]; omega), rfl, q _ I.fresh⟩
end
section
variable {prog : Program} {w : World} {A : Around} {E : Value → Shared → Prop} {s : Shared}
end
section
variable {X : Cx}
end
end L2
namespace L2
open PySem PySem.Spec PyProof.Rows
section
variable {κ : Type} [DecidableEq κ]
def valV (kvs : List (κ × V)) (k : κ) : Option V := (kvs.find? fun kv => decide (kv.1 = k)).map (·.2)
def putK (kvs : List (κ × V)) (k : κ) (v : V) : List (κ × V) :=
  if (kvs.any fun kv => decide (kv.1 = k)) = true then kvs.map (fun kv => if kv.1 = k then (kv.1, v) else kv) else kvs ++ [(k, v)]
def dropK (kvs : List (κ × V)) (k : κ) : List (κ × V) := kvs.filter fun kv => decide (kv.1 ≠ k)
theorem valV_pos {p : κ × V} {r : List (κ × V)} {k : κ} (e : p.1 = k) : valV (p :: r) k = some p.2 := by simp [valV, List.find?_cons, e]
theorem valV_neg {p : κ × V} {r : List (κ × V)} {k : κ} (e : ¬ p.1 = k) : valV (p :: r) k = valV r k := by simp [valV, List.find?_cons, e]
theorem valV_any (k : κ) : ∀ kvs : List (κ × V), (kvs.any fun kv => decide (kv.1 = k)) = (valV kvs k).isSome
  | [] => rfl
  | p :: r => by
    rw [List.any_cons]
    by_cases e : p.1 = k
    · simp only [valV_pos e, decide_eq_true e, Bool.true_or, Option.isSome_some]
    · rw [valV_neg e, decide_eq_false e, Bool.false_or]; exact valV_any k r
theorem valV_map (k j : κ) (y : V) : ∀ kvs : List (κ × V), valV (kvs.map fun kv => if kv.1 = k then (kv.1, y) else kv) j = (valV kvs j).map fun x => if j = k then y else x
  | [] => rfl
  | p :: r => by
    have ih := valV_map k j y r
    rw [List.map_cons]
    by_cases h : p.1 = k
    · rw [if_pos h]
      by_cases e : p.1 = j
      · rw [valV_pos (p := (p.1, y)) e, valV_pos e, Option.map_some, if_pos (e.symm.trans h)]
      · rw [valV_neg (p := (p.1, y)) e, valV_neg e, ih]
    · rw [if_neg h]
      by_cases e : p.1 = j
      · rw [valV_pos (p := p) e, valV_pos e, Option.map_some, if_neg (fun z => h (e.trans z))]
      · rw [valV_neg (p := p) e, valV_neg e, ih]
theorem valV_snoc (k j : κ) (y : V) : ∀ kvs : List (κ × V), valV kvs k = none → valV (kvs ++ [(k, y)]) j = if j = k then some y else valV kvs j
  | [], _ => by
    by_cases e : k = j
    · rw [if_pos e.symm]; exact valV_pos (p := (k, y)) e
    · rw [if_neg (fun z => e z.symm)]; exact valV_neg (p := (k, y)) e
  | p :: r, hn => by
    rw [List.cons_append]
    have hk : ¬ p.1 = k := fun z => by rw [valV_pos z] at hn; cases hn
    rw [valV_neg hk] at hn
    have ih := valV_snoc k j y r hn
    by_cases e : p.1 = j
    · rw [valV_pos e, valV_pos e, if_neg (fun z => hk (e.trans z))]
    · rw [valV_neg e, valV_neg e, ih]
theorem valV_put (kvs : List (κ × V)) (k j : κ) (y : V) : valV (putK kvs k y) j = if j = k then some y else valV kvs j := by
  unfold putK
  by_cases a : (kvs.any fun kv => decide (kv.1 = k)) = true
  · rw [if_pos a, valV_map]
    rw [valV_any] at a
    by_cases e : j = k
    · obtain ⟨x, hx⟩ := Option.isSome_iff_exists.mp a
      rw [if_pos e, e, hx, Option.map_some, if_pos rfl]
    · rw [if_neg e]
      cases valV kvs j with
      | none => rfl
      | some x => rw [Option.map_some, if_neg e]
  · rw [if_neg a]
    refine valV_snoc k j y kvs ?_
    rw [valV_any] at a
    cases q : valV kvs k with
    | none => rfl
    | some x => rw [q] at a; exact (a rfl).elim
theorem length_putK (kvs : List (κ × V)) (k : κ) (v : V) : (putK kvs k v).length ≤ kvs.length + 1 := by
  unfold putK
  split
  · rw [List.length_map]; omega
  · rw [List.length_append, List.length_cons, List.length_nil]; omega
theorem putK_new {kvs : List (κ × V)} {k : κ} (v : V) (h : valV kvs k = none) : putK kvs k v = kvs ++ [(k, v)] := by
  unfold putK
  rw [valV_any, h]
  exact if_neg (by decide)
theorem RelO.isSome_eq {o : Option V} {u : Option Value} (r : RelO o u) : o.isSome = u.isSome := by
  cases o with
  | none => cases u with
    | none => rfl
    | some _ => exact (show False from r).elim
  | some _ => cases u with
    | none => exact (show False from r).elim
    | some _ => rfl
theorem RelO.getD {o : Option V} {u : Option Value} {d : V} {d' : Value} (r : RelO o u) (rd : RelV d d') : RelV (o.getD d) (u.getD d') := by
  cases o with
  | none => cases u with
    | none => exact rd
    | some _ => exact (show False from r).elim
  | some _ => cases u with
    | none => exact (show False from r).elim
    | some _ => exact r
theorem KV.val {kvs : List (κ × V)} {vs : List (κ × Value)} (r : KV kvs vs) (k : κ) : RelO (valV kvs k) (valueAt vs k) := by
  unfold KV at r
  induction r with
  | nil => exact True.intro
  | @cons p q ps qs h t ih =>
    obtain ⟨h1, h2⟩ := h
    by_cases e : p.1 = k
    · have e' : q.1 = k := h1.symm.trans e
      have b : valueAt (q :: qs) k = some q.2 := by simp [valueAt, List.find?_cons, e']
      rw [valV_pos e, b]; exact h2
    · have e' : ¬ q.1 = k := fun z => e (h1.trans z)
      have b : valueAt (q :: qs) k = valueAt qs k := by simp [valueAt, List.find?_cons, e']
      rw [valV_neg e, b]; exact ih
theorem KV.any {kvs : List (κ × V)} {vs : List (κ × Value)} (r : KV kvs vs) (k : κ) : (kvs.any fun kv => decide (kv.1 = k)) = vs.any fun kv => decide (kv.1 = k) := by
  unfold KV at r
  induction r with
  | nil => rfl
  | cons h t ih => rw [List.any_cons, List.any_cons, ih, h.1]
theorem KV.repl {kvs : List (κ × V)} {vs : List (κ × Value)} (r : KV kvs vs) (k : κ) {y : V} {u : Value} (ry : RelV y u) :
    KV (kvs.map fun kv => if kv.1 = k then (kv.1, y) else kv) (vs.map fun kv => if kv.1 = k then (kv.1, u) else kv) := by
  unfold KV at r ⊢
  induction r with
  | nil => exact .nil
  | @cons p q ps qs h t ih =>
    rw [List.map_cons, List.map_cons]
    refine .cons ?_ ih
    obtain ⟨h1, h2⟩ := h
    by_cases e : p.1 = k
    · rw [if_pos e, if_pos (h1.symm.trans e)]; exact ⟨h1, ry⟩
    · rw [if_neg e, if_neg (fun z => e (h1.trans z))]; exact ⟨h1, h2⟩
theorem KV.put {kvs : List (κ × V)} {vs : List (κ × Value)} (r : KV kvs vs) (k : κ) {y : V} {u : Value} (ry : RelV y u) : KV (putK kvs k y) (stored vs k u) := by
  unfold putK stored
  rw [r.any k]
  by_cases e : (vs.any fun kv => decide (kv.1 = k)) = true
  · rw [if_pos e, if_pos e]; exact r.repl k ry
  · rw [if_neg e, if_neg e]; exact Paired.snoc r ⟨rfl, ry⟩
theorem KV.drop {kvs : List (κ × V)} {vs : List (κ × Value)} (r : KV kvs vs) (k : κ) : KV (dropK kvs k) (without vs k) := by
  unfold KV at r ⊢
  unfold dropK without
  induction r with
  | nil => exact .nil
  | @cons p q ps qs h t ih =>
    obtain ⟨h1, h2⟩ := h
    rw [List.filter_cons, List.filter_cons]
    by_cases e : p.1 = k
    · have a : ¬ decide (p.1 ≠ k) = true := by simp [e]
      have b : ¬ decide (q.1 ≠ k) = true := by simp [h1.symm.trans e]
      rw [if_neg a, if_neg b]; exact ih
    · have e' : ¬ q.1 = k := fun z => e (h1.trans z)
      have a : decide (p.1 ≠ k) = true := by simp [e]
      have b : decide (q.1 ≠ k) = true := by simp [e']
      rw [if_pos a, if_pos b]; exact .cons ⟨h1, h2⟩ ih
theorem KV.keys {kvs : List (κ × V)} {vs : List (κ × Value)} (r : KV kvs vs) : kvs.map (·.1) = vs.map (·.1) := by
  unfold KV at r
  induction r with
  | nil => rfl
  | cons h t ih => rw [List.map_cons, List.map_cons, ih, h.1]
theorem KV.length {kvs : List (κ × V)} {vs : List (κ × Value)} (r : KV kvs vs) : kvs.length = vs.length := Paired.length r
end
theorem kV_is {P : Program} {w : World} {k : Key} {u : Value} (r : RelV (kV k) u) : (mixKind P w).is k u = true := by
  cases k with
  | inl i => obtain ⟨t, e⟩ := (show ∃ t, u = Value.int i t from r); subst e; exact mixKind_int P w i t
  | inr x => obtain ⟨t, e⟩ := (show ∃ t, u = Value.str x t from r); subst e; exact mixKind_str P w x t
theorem items_are {P : Program} {w : World} : ∀ {ks : List Key} {us : List Value}, Vals (ks.map kV) us → ItemsAre (mixKind P w) ks us
  | [], _, r => by rw [List.map_nil] at r; cases r; exact .nil
  | k :: ks, _, r => by
    rw [List.map_cons] at r
    cases r with
    | cons h t => exact .cons (kV_is h) (items_are t)
abbrev KT (H : Hp) : List (List Key × V) → List (List Key × Addr × Value) → Prop := Paired fun p q => p.1 = q.1 ∧ H q.2.1 = some (.tup (p.1.map kV)) ∧ RelV p.2 q.2.2
theorem KT.val {H : Hp} {kvs : List (List Key × V)} {xs : List (List Key × Addr × Value)} (r : KT H kvs xs) (k : List Key) : RelO (valV kvs k) ((atKey xs k).map (·.2)) := by
  induction r with
  | nil => exact True.intro
  | @cons p q ps qs h t ih =>
    obtain ⟨h1, _, h2⟩ := h
    by_cases e : p.1 = k
    · have e' : q.1 = k := h1.symm.trans e
      have b : atKey (q :: qs) k = some q.2 := by simp [atKey, List.find?_cons, e']
      rw [valV_pos e, b]; exact h2
    · have e' : ¬ q.1 = k := fun z => e (h1.trans z)
      have b : atKey (q :: qs) k = atKey qs k := by simp [atKey, List.find?_cons, e']
      rw [valV_neg e, b]; exact ih
theorem KT.repl {H : Hp} {kvs : List (List Key × V)} {xs : List (List Key × Addr × Value)} (r : KT H kvs xs) (k : List Key) {y : V} {u : Value} (ry : RelV y u) :
    KT H (kvs.map fun kv => if kv.1 = k then (kv.1, y) else kv) (xs.map (putAt k u)) := by
  induction r with
  | nil => exact .nil
  | @cons p q ps qs h t ih =>
    rw [List.map_cons, List.map_cons]
    refine .cons ?_ ih
    obtain ⟨h1, h2, h3⟩ := h
    unfold putAt
    by_cases e : p.1 = k
    · rw [if_pos e, if_pos (h1.symm.trans e)]; exact ⟨h1, h2, ry⟩
    · rw [if_neg e, if_neg (fun z => e (h1.trans z))]; exact ⟨h1, h2, h3⟩
theorem KT.put {H : Hp} {kvs : List (List Key × V)} {xs : List (List Key × Addr × Value)} (r : KT H kvs xs) (k : List Key) {b : Addr} {y : V} {u : Value} (hb : H b = some (.tup (k.map kV))) (ry : RelV y u) :
    KT H (putK kvs k y) (storedH xs k b u) := by
  have e : (kvs.any fun kv => decide (kv.1 = k)) = (atKey xs k).isSome := by
    rw [valV_any, (r.val k).isSome_eq, Option.isSome_map]
  unfold putK storedH
  rw [e]
  by_cases q : (atKey xs k).isSome = true
  · rw [if_pos q, if_pos q]; exact r.repl k ry
  · rw [if_neg q, if_neg q]; exact Paired.snoc r ⟨rfl, hb, ry⟩
theorem KT.keeps {H H' : Hp} {kvs : List (List Key × V)} {xs : List (List Key × Addr × Value)} (r : KT H kvs xs) (ht : ∀ b ys, H b = some (.tup ys) → H' b = some (.tup ys)) : KT H' kvs xs :=
  Paired.mapP r fun _ _ z => ⟨z.1, ht _ _ z.2.1, z.2.2⟩
section
variable {P : Program} {w : World} {H : Hp} {h : Heap} {a : Addr}
theorem rd_of {u : HO} (ok : HOk P w H h) (e : Rd H a u) : ObjOk P w H h a u := e.ok ok
theorem dk_rd {kvs : List (Key × V)} (ok : HOk P w H h) (e : Rd H a (.dK kvs)) : kvs.length ≤ sizeLine ∧ (a == sysModules) = false ∧ ∃ vs, KV kvs vs ∧ h.DictOf (mixKind P w) a vs :=
  show ObjOk P w H h a (.dK kvs) from rd_of ok e
theorem dk_of {kvs : List (Key × V)} (ok : HOk P w H h) (e : H a = some (.dK kvs)) : kvs.length ≤ sizeLine ∧ (a == sysModules) = false ∧ ∃ vs, KV kvs vs ∧ h.DictOf (mixKind P w) a vs := dk_rd ok (.inl e)
theorem key_of {ks : List Key} (ok : HOk P w H h) (e : H a = some (.tup (ks.map kV))) : (tupleKind (mixKind P w)).is h ks a := by
  obtain ⟨_, its, r, o, h1, h2, n, h3⟩ := (show ObjOk P w H h a (.tup (ks.map kV)) from ok a _ e)
  exact ⟨o, its.toArray, n, h1, h2, h3, by simpa using items_are r⟩
theorem dt_rd {kvs : List (List Key × V)} (ok : HOk P w H h) (e : Rd H a (.dT kvs)) : kvs.length ≤ sizeLine ∧ (a == sysModules) = false ∧
    ∃ xs, KT H kvs xs ∧ h.DictOfH (tupleKind (mixKind P w)) a xs := by
  obtain ⟨z, y, xs, r, o, es, ep, h1, h2, h3, h4, h5⟩ := (show ObjOk P w H h a (.dT kvs) from rd_of ok e)
  refine ⟨z, y, xs, r, o, es, ep, h1, h2, h3, h4, fun x hx => ?_, h5⟩
  have all : ∀ {l : List (List Key × V)} {m : List (List Key × Addr × Value)}, KT H l m → ∀ x ∈ m, (tupleKind (mixKind P w)).is h x.1 x.2.1 := by
    intro l m q
    induction q with
    | nil => intro x hx; exact nomatch hx
    | @cons p q ps qs hq t ih =>
      intro x hx
      rcases List.mem_cons.mp hx with e | hx
      · subst e
        exact key_of ok (by rw [← hq.1]; exact hq.2.1)
      · exact ih x hx
  exact all r x hx
theorem dt_of {kvs : List (List Key × V)} (ok : HOk P w H h) (e : H a = some (.dT kvs)) : kvs.length ≤ sizeLine ∧ (a == sysModules) = false ∧
    ∃ xs, KT H kvs xs ∧ h.DictOfH (tupleKind (mixKind P w)) a xs := dt_rd ok (.inl e)
end
def DGet (H : Hp) (a : Addr) (y : V) (r : Option V) : Prop :=
  (∃ kvs k, Rd H a (.dK kvs) ∧ y = kV k ∧ r = valV kvs k) ∨ ∃ kvs k b, Rd H a (.dT kvs) ∧ y = .ref b ∧ H b = some (.tup (k.map kV)) ∧ r = valV kvs k
def DPut (H : Hp) (a : Addr) (y v : V) (H' : Hp) : Prop :=
  (∃ kvs k, H a = some (.dK kvs) ∧ y = kV k ∧ kvs.length < sizeLine ∧ H' = upd H a (.dK (putK kvs k v))) ∨
  ∃ kvs k b, H a = some (.dT kvs) ∧ y = .ref b ∧ H b = some (.tup (k.map kV)) ∧ kvs.length < sizeLine ∧ H' = upd H a (.dT (putK kvs k v))
theorem DGet.k {H : Hp} {a : Addr} {kvs : List (Key × V)} {k : Key} (e : H a = some (.dK kvs)) : DGet H a (kV k) (valV kvs k) := .inl ⟨kvs, k, .inl e, rfl, rfl⟩
theorem DGet.t {H : Hp} {a b : Addr} {kvs : List (List Key × V)} {k : List Key} (e : H a = some (.dT kvs)) (eb : H b = some (.tup (k.map kV))) : DGet H a (.ref b) (valV kvs k) := .inr ⟨kvs, k, b, .inl e, rfl, eb, rfl⟩
theorem DPut.k {H : Hp} {a : Addr} {kvs : List (Key × V)} {k : Key} {v : V} (e : H a = some (.dK kvs)) (hl : kvs.length < sizeLine) : DPut H a (kV k) v (upd H a (.dK (putK kvs k v))) := .inl ⟨kvs, k, e, rfl, hl, rfl⟩
theorem DPut.t {H : Hp} {a b : Addr} {kvs : List (List Key × V)} {k : List Key} {v : V} (e : H a = some (.dT kvs)) (eb : H b = some (.tup (k.map kV))) (hl : kvs.length < sizeLine) :
    DPut H a (.ref b) v (upd H a (.dT (putK kvs k v))) := .inr ⟨kvs, k, b, e, rfl, eb, hl, rfl⟩
section
variable {X : Cx} {pins : List (Addr × Obj)} {σ : St} {H : Hp} {s : Shared} {a : Addr} {y v : V} {u r : Value} {o : Option V} {A : Around} {E : Value → Shared → Prop}
theorem Inv.big (I : Inv X pins σ H s) : sysModules < s.heap.objs.size := by
  have h : mainGlobals < s.heap.objs.size := (I.mod.glob.keeps I.bk).lt
  exact Nat.lt_trans (by decide) h
theorem d_in {Q : Value → Shared → Prop} (hu : A.units + 1 < cLine) (I : Inv X pins σ H s) (g : DGet H a y o) (ry : RelV y u) (h : ∀ s', Inv X pins σ H s' → Q (.bool o.isSome) s') :
    wpAny (model X.prog X.w) A (compareOp .In u (.ref a)) Q E s := by
  rcases g with ⟨kvs, k, e, ey, l⟩ | ⟨kvs, k, b, e, ey, eb, l⟩
  · subst ey
    obtain ⟨z, hd, vs, rel, dd⟩ := dk_rd I.hok e
    refine wpAny_in_of (kV_is ry) hd dd.mapOf ?_
    rw [← (rel.val k).isSome_eq, ← l]
    exact h _ (I.tok _)
  · subst ey
    cases (show u = Value.ref b from ry)
    obtain ⟨z, hd, xs, rel, dd⟩ := dt_rd I.hok e
    refine wpAny_in_heap (tupleKind_room_in1 hu) (key_of I.hok eb) hd dd ?_
    have q := (rel.val k).isSome_eq
    rw [Option.isSome_map] at q
    rw [← q, ← l]
    exact h _ (I.tok _)
theorem d_write {h' : Heap} {t' : Nat} {ob : HO} (I : Inv X pins σ H s) (mu : Mut (H a)) (hs : Heap.SameBut a s.heap h') (he : ∃ q, h'.get? a = some q) (new : ObjOk X.prog X.w (upd H a ob) h' a ob) :
    Inv X pins σ (upd H a ob) { s with heap := h', toks := t' } :=
  I.write (x := a) (e := a) mu (.inl rfl) (fun b q hb z => (hs.2 b hb).trans z) he new
theorem dk_new {P : Program} {w : World} {H' : Hp} {h' : Heap} {kvs : List (Key × V)} {vs : List (Key × Value)} (z : kvs.length ≤ sizeLine) (hd : (a == sysModules) = false) (rel : KV kvs vs) (dd : h'.DictOf (mixKind P w) a vs) :
    ObjOk P w H' h' a (.dK kvs) := ⟨z, hd, vs, rel, dd⟩
theorem d_setItem {H' : Hp} {Q : Unit → Shared → Prop} (hu : A.units + 1 < cLine) (I : Inv X pins σ H s) (g : DPut H a y v H') (ry : RelV y u) (rv : RelV v r) (h : ∀ s', Inv X pins σ H' s' → Q () s') :
    wpAny (model X.prog X.w) A (setItem (.ref a) u r) Q E s := by
  rcases g with ⟨kvs, k, e, ey, l, eH⟩ | ⟨kvs, k, b, e, ey, eb, l, eH⟩
  · subst ey eH
    obtain ⟨z, hd, vs, rel, dd⟩ := dk_of I.hok e
    have hz : vs.length ≤ sizeLine := by rw [← rel.length]; exact z
    have hl : (putK kvs k v).length ≤ sizeLine := by have := length_putK kvs k v; omega
    refine wpAny_setItem_pairs (hsz := hz) (kV_is ry) dd fun h' dd' hs => h _ ?_
    have he : ∃ q, h'.get? a = some q := let ⟨q, _, _, hq, _⟩ := dd'; ⟨q, hq⟩
    exact d_write I (by rw [e]; exact True.intro) hs he (dk_new hl hd (rel.put k rv) dd')
  · subst ey eH
    cases (show u = Value.ref b from ry)
    obtain ⟨z, hd, xs, rel, dd⟩ := dt_of I.hok e
    have hz : xs.length ≤ sizeLine := by rw [← Paired.length rel]; exact z
    have hl : (putK kvs k v).length ≤ sizeLine := by have := length_putK kvs k v; omega
    refine wpAny_setItem_heap (hsz := hz) (tupleKind_room_in1 hu) (key_of I.hok eb) dd fun h' dd' hs => h _ ?_
    obtain ⟨q, es, ep, hq, h2, h3, h4, _, h5⟩ := dd'
    refine d_write I (by rw [e]; exact True.intro) hs ⟨q, hq⟩ ⟨hl, hd, _, (rel.put k eb rv).keeps fun c ys ec => ?_, q, es, ep, hq, h2, h3, h4, h5⟩
    rw [upd_ne (ne_of ec e (fun z => nomatch z))]
    exact ec
end
section
variable {X : Cx} {pins : List (Addr × Obj)} {σ : St} {H : Hp} {s : Shared} {a : Addr} {kvs : List (Key × V)} {k : Key} {u : Value} {A : Around} {E : Value → Shared → Prop}
end
def tDIn (ty td : TE) : TE := fun σ H Q => ty σ H fun y H1 => td σ H1 fun x H2 => ∃ a o, x = .ref a ∧ DGet H2 a y o ∧ Q (.bl o.isSome) H2
def sDPut (td ty tv : TE) : TS := fun D σ H => tv σ H fun v H1 => td σ H1 fun x H2 => ty σ H2 fun y H3 => ∃ a H4, x = .ref a ∧ DPut H3 a y v H4 ∧ D.nx σ H4
section
variable {X : Cx} {o i e value : Expr} {pos pos' tpos : Pos} {td ty tv : TE}
theorem pc_din (hu : X.A.units + 1 < cLine) (hi : PE X i ty) (ho : PE X o td) : PC X .In i o (tDIn ty td) := by
  intro pins s σ H Q I h
  refine thn (hi pins s σ H _ I h) fun iv s1 ⟨y, H1, I1, ry, q1⟩ => thn (ho pins s1 σ H1 _ I1 q1) fun u s2 ⟨x, H2, I2, rx, a, ov, ex, g, q2⟩ => ?_
  subst ex
  obtain rfl : u = Value.ref a := rx
  exact d_in hu I2 g ry fun s3 I3 => ⟨.bl ov.isSome, H2, I3, rfl, q2⟩
theorem ps_dput (hu : X.A.units + 1 < cLine) (ho : PE X o td) (hi : PE X i ty) (hv : PE X value tv) (hs : swapsWith value (some (.Subscript o i pos')) pos.line X.env = pure false) :
    PS X (.Assign [.Subscript o i pos'] value pos) (sDPut td ty tv) := by
  intro pins s σ H D I h
  refine wpAny_Assign_Subscript (thn (hv pins s σ H _ I h) fun r s1 ⟨v, H1, I1, rv, q1⟩ => thn (ho pins s1 σ H1 _ I1 q1) fun u s2 ⟨x, H2, I2, rx, q2⟩ => thn (hi pins s2 σ H2 _ I2 q2) fun iv s3 ⟨y, H3, I3, ry, a, H4, ex, g, q3⟩ => ?_) hs
  subst ex
  obtain rfl : u = Value.ref a := rx
  exact d_setItem hu I3 g ry rv fun s4 I4 => ⟨σ, H4, I4, q3⟩
end
theorem dk_empty {P : Program} {w : World} {H : Hp} (h : Heap) (hb : sysModules < h.objs.size) : ObjOk P w H (h.push { cls := .type "dict", data := .dict #[] }) h.objs.size (.dK []) :=
  ⟨Nat.zero_le _, beq_eq_false_iff_ne.mpr (Ne.symm (Nat.ne_of_lt hb)), [], .nil, Heap.DictOf.new h⟩
theorem dt_empty {P : Program} {w : World} {H : Hp} (h : Heap) (hb : sysModules < h.objs.size) : ObjOk P w H (h.push { cls := .type "dict", data := .dict #[] }) h.objs.size (.dT []) :=
  ⟨Nat.zero_le _, beq_eq_false_iff_ne.mpr (Ne.symm (Nat.ne_of_lt hb)), [], .nil, _, #[], 0, Heap.get?_push_size _ rfl, ⟨rfl, rfl, rfl⟩, rfl, rfl, List.nodup_nil⟩
def tDNewK : TE := fun _ H Q => ∀ p, H p = none → Q (.ref p) (upd H p (.dK []))
def tDNewT : TE := fun _ H Q => ∀ p, H p = none → Q (.ref p) (upd H p (.dT []))
section
variable {X : Cx} {pos : Pos}
theorem pe_dnewK : PE X (.Dict [] [] pos) tDNewK := fun pins s σ H Q I h =>
  wpAny_Dict_empty ⟨.ref s.heap.objs.size, _, I.laid (a := s.heap.objs.size) (o := .dK []) (t' := s.toks) (fun _ _ q => Heap.get?_push_of_some _ q) (Nat.le_refl _) (dk_empty s.heap I.big), rfl, h _ (I.hok.fresh (Nat.le_refl _))⟩
theorem pe_dnewT : PE X (.Dict [] [] pos) tDNewT := fun pins s σ H Q I h =>
  wpAny_Dict_empty ⟨.ref s.heap.objs.size, _, I.laid (a := s.heap.objs.size) (o := .dT []) (t' := s.toks) (fun _ _ q => Heap.get?_push_of_some _ q) (Nat.le_refl _) (dt_empty s.heap I.big), rfl, h _ (I.hok.fresh (Nat.le_refl _))⟩
end
structure M1 (X : Cx) (o : Expr) (m : Str) (apos : Pos) (e : Expr) (cpos : Pos) : Prop where
  base : attributeBase o m X.env (eval o X.env) = eval o X.env
  few : ((backTo cpos (starEach [e] X.env)).all (fun x => !x.1) && (backToKw cpos (keywordEach [] X.env)).all (fun x => x.1.isSome)
    && decide (([e] : List Expr).length + ([] : List Keyword).length + (if ([] : List Keyword).isEmpty then 0 else 1) < 30)) = true
  line : (apos.endLine == cpos.line) = true
  trees : backTo cpos (starEach [e] X.env) = [(false, eval e X.env)]
structure M2 (X : Cx) (o : Expr) (m : Str) (apos : Pos) (e f : Expr) (cpos : Pos) : Prop where
  base : attributeBase o m X.env (eval o X.env) = eval o X.env
  few : ((backTo cpos (starEach [e, f] X.env)).all (fun x => !x.1) && (backToKw cpos (keywordEach [] X.env)).all (fun x => x.1.isSome)
    && decide (([e, f] : List Expr).length + ([] : List Keyword).length + (if ([] : List Keyword).isEmpty then 0 else 1) < 30)) = true
  line : (apos.endLine == cpos.line) = true
  trees : backTo cpos (starEach [e, f] X.env) = [(false, eval e X.env), (false, eval f X.env)]
def IsD (H : Hp) (a : Addr) : Prop := (∃ kvs, Rd H a (.dK kvs)) ∨ ∃ kvs, Rd H a (.dT kvs)
theorem isD_at {X : Cx} {pins : List (Addr × Obj)} {σ : St} {H : Hp} {s : Shared} {a : Addr} (I : Inv X pins σ H s) (d : IsD H a) :
    s.TypeIs (.ref a) "dict" ∧ (∀ b, Value.ref a = .ref b → ∃ ob, s.heap.get? b = some ob ∧ ob.dict = none) ∧ (a == sysModules) = false := by
  rcases d with ⟨kvs, e⟩ | ⟨kvs, e⟩
  · obtain ⟨_, hd, vs, _, dd⟩ := dk_rd I.hok e
    refine ⟨dd.typeIs, fun b q => ?_, hd⟩
    cases q
    obtain ⟨ob, _, _, h1, h2, _⟩ := dd
    exact ⟨ob, h1, h2.2.1⟩
  · obtain ⟨_, hd, xs, _, dd⟩ := dt_rd I.hok e
    refine ⟨dd.typeIs, fun b q => ?_, hd⟩
    cases q
    obtain ⟨ob, _, _, h1, h2, _⟩ := dd
    exact ⟨ob, h1, h2.2.1⟩
section
variable {X : Cx} {pins : List (Addr × Obj)} {σ : St} {H : Hp} {s : Shared} {a : Addr} {y d : V} {u r : Value} {o : Option V} {A : Around} {E : Value → Shared → Prop}
end
section
variable {X : Cx} {o e f : Expr} {apos cpos : Pos} {td ty tx : TE}
end
section
variable {X : Cx} {pins : List (Addr × Obj)} {σ : St} {H : Hp} {s : Shared} {a : Addr} {kvs : List (Key × V)} {A : Around} {E : Value → Shared → Prop}
end
section
variable {X : Cx} {pins : List (Addr × Obj)} {σ : St} {H : Hp} {s : Shared} {a : Addr} {y : V} {u : Value} {A : Around} {E : Value → Shared → Prop}
end
end L2
namespace Att
open PySem PySem.W PySem.Calls PyProof.Rows
theorem ints_of_wellAll {P : Params} {h : Heap} : ∀ (ns : List Int) (vs : List Value), WellAll P h vs (ns.map WData.int) → IntsAre vs ns := by
  intro ns
  induction ns with
  | nil =>
    intro vs w
    rw [List.map_nil] at w
    cases w
    exact .nil
  | cons n ns ih =>
    intro vs w
    rw [List.map_cons] at w
    cases w with
    | cons a b =>
      cases a
      exact .cons _ _ (ih _ b)
theorem script_of {l : OpenLaw} {n : Nat} (hn : l.most = some n) {P : Params} {h : Heap} {args : List WData} {vals : List Value}
    (hpre : l.row.toRowW.claim.pre args = true) (hwl : WellAll P h vals args) :
    ∃ a vs ns, vals = [Value.ref a] ∧ args = [WData.list (ns.map WData.int)] ∧ h.get? a = some { cls := .type "list", data := .seq vs.toArray } ∧ IntsAre vs ns ∧ ns.length ≤ n := by
  have hsh : WShape.hasAll [] args [.list .int] = true := (pre_splitW hpre).1
  have hc : l.pre.holds [] { args := args } = true := (pre_splitW hpre).2
  obtain ⟨d, r, rfl, h1, h2⟩ := hasAllW_cons hsh
  obtain rfl := hasAllW_nil h2
  obtain ⟨xs, rfl, h3⟩ := hasW_list h1
  obtain ⟨ns, rfl⟩ := items_int h3
  have hlen : ns.length ≤ n := by
    unfold OpenLaw.pre at hc
    have h4 : (WTm.not (.lt (.lit (.int (n : Int))) (.len (.arg 0)))).holds [] { args := [.list (ns.map .int)] } = true := by
      have h4 := (holds_andW hc).1
      rw [hn] at h4
      exact h4
    have h5 := condW_of h4 (w_not (w_lt w_lit (w_len_list (w_arg rfl))))
    rw [List.length_map] at h5
    refine Nat.le_of_not_lt fun q => ?_
    have q' : (n : Int) < ((ns.length : Nat) : Int) := by omega
    first
      | (rw [decide_eq_true q'] at h5; exact absurd h5 (by decide))
      | (simp at h5; omega)
  cases hwl with
  | cons w1 w2 =>
    cases w2
    cases w1 with
    | list ho hall => exact ⟨_, _, ns, rfl, rfl, ho, ints_of_wellAll ns _ hall, hlen⟩
theorem post_true (l : OpenLaw) (args : List WData) : l.row.toRowW.claim.post args (.bool true) args = true :=
  postW_of (r := l.row.toRowW) (X := (true == true))
    (show WShape.has [] (.bool true) .bool = true by first | rfl | decide | simp [WShape.has, WShape.arms, WShape.armsAll])
    (show (WTm.eq .res (.lit (.bool true))).value [] { args := args, res := some (.bool true), after := args } = some (.bool (true == true)) from w_eq_bool (w_res rfl) w_lit) rfl
theorem attach_call {l : OpenLaw} {n : Nat} {q : Program} {loose : List Str} {XP : (Str → Option Value) → Heap → Prop} {YP : World → Heap → Prop} {d : DefRec}
    (hn : l.most = some n) (hdf : d.params.defaults = [])
    (call : ∀ (w : World) (s₀ s₁ : Shared) (mg mb : Str → Option Value) (fa : Addr) (o : Obj) (pm cd doc : Value) (a : Addr) (vs : List Value) (ns : List Int),
      Ground q loose [] XP w s₀ mg mb s₁.heap → YP w s₁.heap →
      s₁.heap.get? fa = some o → o.data = .func (docDef d.name d.params d.body d.scope pm cd doc) → s₁.heap.CodeRec cd d.name → mg d.name = some (.ref fa) →
      s₁.heap.get? a = some { cls := .type "list", data := .seq vs.toArray } → IntsAre vs ns → ns.length ≤ n → s₁.gens = #[] →
      codeAny (model l.prog w) callerA (.call (.ref fa) ⟨[.ref a], []⟩) (fun r s' => r = .ok (.ret (.bool true)) ∧ OldK s₁.heap s'.heap ∧ s'.os = s₁.os ∧ AllBare s'.gens) s₁) :
    WalkO q loose XP YP l.row.toRowW d [] (fun f vs => PySem.call f vs) := by
  intro w s₀ s₁ mg mb G Y fa o pm cd doc dV kV ho hd hcd hD hmg hg args vals as hpre hlay hrd hwl hlo
  obtain rfl : dV = .none := Dflts.none hD hdf
  obtain rfl : kV = .none := Dflts.noKw hD
  obtain ⟨a, vs, ns, rfl, rfl, hobj, hints, hlen⟩ := script_of hn hpre hwl
  refine enter_call (codeAny_mono (call w s₀ s₁ mg mb fa o pm cd doc a vs ns G Y ho (fd_plain hd) hcd hmg hobj hints hlen hg) fun r s' hq => ?_)
  obtain ⟨rfl, h2, h3, h4⟩ := hq
  exact ⟨.inl ⟨.bool true, .bool true, [], rfl, fun _ => rfl, .bool true, post_true l _, fun _ => ⟨List.Pairwise.nil, fun _ hm => (nomatch hm)⟩⟩, h2, h3, h4⟩
section
variable {prog : Program} {w : World} {A : Around} {E : Value → Shared → Prop} {s : Shared} {K : Frag}
end
end Att
namespace L2
open PySem PySem.Spec PyProof.Rows
theorem vals_ints : ∀ {vs : List Value} {ns : List Int}, IntsAre vs ns → Vals (ns.map V.int) vs
  | _, _, .nil => .nil
  | _, _, .cons n t h => .cons ⟨t, rfl⟩ (vals_ints h)
def Only (H : Hp) : Prop := ∀ b, H b = none ∨ ∃ o xs, H b = some (.frz o (.lst xs))
theorem law_call {P : Program} {w : World} {K : PySem.W.Frag} {mg mb : Str → Option Value} {CX : CXT} {k : Nat} {fa a : Addr} {fd : FuncData} {x : Str} {sp : Sp} {s₁ : Shared} {vs : List Value} {ns : List Int}
    (KX : K.In s₁.heap) (hns : s₁.heap.Ns mainGlobals mg) (hb : s₁.heap.Ns builtinsNs mb) (hbb : ∀ x : Str, x ≠ "__name__" → mb x = bootBuiltins x) (hlim : s₁.heap.NoLimit) (hg : s₁.gens = #[])
    (ha : s₁.heap.get? a = some { cls := .type "list", data := .seq vs.toArray }) (hi : IntsAre vs ns) (hl : ns.length ≤ sizeLine) (hr : Room k callerA)
    (F : ∀ base : Heap, K.In base → base.Ns mainGlobals mg → FnOk P w K mg base CX k fa fd [x] sp) (hbind : ∀ (s : Shared) (u : Value), BindsTo s fd ⟨[u], []⟩ [(x, u)])
    (hsp : ∀ H : Hp, Only H → SqL K H a (ns.map V.int) → sp [.ref a] H (fun v _ => v = .bl true) fun _ _ _ => False)
    (hCX : ∀ H e s', CX [] H s₁ (fun _ _ _ => False) e s' → False) :
    codeAny (model P w) callerA (.call (.ref fa) ⟨[.ref a], []⟩) (fun r s' => r = .ok (.ret (.bool true)) ∧ OldK s₁.heap s'.heap ∧ s'.os = s₁.os ∧ AllBare s'.gens) s₁ := by
  have rv := vals_ints hi
  have lenV := hi.length
  -- from an abstract heap in which nothing but the script may be tracked
  have core : ∀ H : Hp, Only H → SqL K H a (ns.map V.int) → HOk P w H s₁.heap → (∀ b, H b ≠ none → b = a) → (H a ≠ none → K.lookup a = none) →
      codeAny (model P w) callerA (.call (.ref fa) ⟨[.ref a], []⟩) (fun r s' => r = .ok (.ret (.bool true)) ∧ OldK s₁.heap s'.heap ∧ s'.os = s₁.os ∧ AllBare s'.gens) s₁ := by
    intro H hO hS hok hA hK
    have base_of : ∀ {b : Addr} {o : Obj}, s₁.heap.get? b = some o → H b = none → (hidT s₁.heap H).get? b = some o := fun e n => hidT_get e n
    have noA : ∀ {b : Addr} {o : Obj} {es : Array DictEntry} {ep : Nat}, s₁.heap.get? b = some o → o.data = .dict es ep → H b = none := fun {b o es ep} e d => by
      cases q : H b with
      | none => rfl
      | some u =>
        have e' : b = a := hA b (by rw [q]; simp)
        subst e'
        rw [ha] at e; cases e
        have d' : Data.seq vs.toArray _ = Data.dict es ep := d
        cases d'
    have nsK : ∀ {b : Addr} {m : Str → Option Value}, s₁.heap.Ns b m → (hidT s₁.heap H).Ns b m := fun {b m} ⟨o, es, ep, e, d, r⟩ => ⟨o, es, ep, base_of e (noA e d), d, r⟩
    have hKb : K.In (hidT s₁.heap H) := fun b o e => base_of (KX b o e) (by
      cases q : H b with
      | none => rfl
      | some u =>
        have e' : b = a := hA b (by rw [q]; simp)
        subst e'
        rw [hK (by rw [q]; simp)] at e; cases e)
    have hM : Mod K mg (hidT s₁.heap H) := ⟨hKb, nsK hns, ⟨mb, nsK hb, hbb⟩, let ⟨mc, h1, h2⟩ := hlim; ⟨mc, nsK h1, h2⟩⟩
    have e0 : Env0 P w K mg (hidT s₁.heap H) callerA [] s₁ H := ⟨rfl, hM, fun b o e => of_hidT e, Nat.le_of_eq (hidT_size _ _), trivial, fun b hb => absurd (show b ∈ ([] : List Addr) from hb) (by simp), hok, .of_eq hg⟩
    refine codeAny_mono ((F _ hKb (nsK hns)).run callerA [] s₁ H ⟨[.ref a], []⟩ [.ref a] [.ref a] _ _ hr e0 (hbind s₁ (.ref a)) (.cons rfl .nil) (hsp H hO hS)) fun r s' h => ?_
    cases r with
    | error e => exact (hCX H e s' h).elim
    | ok fl =>
      cases fl with
      | next => exact False.elim h
      | brk => exact False.elim h
      | cont => exact False.elim h
      | ret u =>
        obtain ⟨v, H', os, bare, un, hok', r', q⟩ := h
        have q' : v = .bl true := q
        subst q'
        obtain rfl : u = Value.bool true := r'
        refine ⟨rfl, OldK.of_keep fun b o e => ?_, os, bare⟩
        cases q : H b with
        | none => exact un.keep b o e q (by intro z; exact absurd (show b ∈ ([] : List Addr) from z) (by simp)) (by simp)
        | some u =>
          rcases hO b with z | ⟨ob, xs, z⟩
          · rw [q] at z; cases z
          · have z2 := un.frzs b ob _ z
            obtain ⟨e1, _⟩ := hok b _ z
            obtain ⟨e2, _⟩ := hok' b _ z2
            rw [e] at e1; cases e1
            exact e2
  cases hk : K.lookup a with
  | some o =>
    -- the script is one of the module's own objects
    have e := KX a o hk
    rw [ha] at e
    cases e
    refine core (fun _ => none) (fun _ => .inl rfl) (.inr ⟨_, vs.toArray, _, hk, rfl, rfl, rfl, by rw [List.size_toArray, lenV]; exact hl, by simpa using rv⟩) (fun b u z => by have z' : (none : Option HO) = some u := z; cases z') (fun b z => absurd rfl z) fun z => absurd rfl z
  | none =>
    refine core (fun b => if b = a then some (.frz { cls := .type "list", data := .seq vs.toArray } (.lst (ns.map V.int))) else none) (fun b => ?_) (.inl (.inr ⟨{ cls := .type "list", data := .seq vs.toArray }, if_pos rfl⟩)) (fun b u z => ?_) (fun b z => ?_) fun _ => hk
    · by_cases hb : b = a
      · exact .inr ⟨_, _, if_pos hb⟩
      · exact .inl (if_neg hb)
    · by_cases hb : b = a
      · have z' := (if_pos hb).symm.trans z
        cases z'
        subst hb
        exact ⟨ha, by rw [List.length_map]; exact hl, vs, _, rv, ha⟩
      · have z' := (if_neg hb).symm.trans z
        cases z'
    · by_cases hb : b = a
      · exact hb
      · exact absurd (if_neg hb) z
end L2
namespace L2
open PySem PySem.Spec PyProof.Rows
theorem walk_of {l : PySem.W.OpenLaw} {n k : Nat} {q : Program} {loose : List Str} {XP : (Str → Option Value) → Heap → Prop} {YP : World → Heap → Prop} {d : DefRec} {K : Params → PySem.W.Frag} {CX : World → CXT} {sp : World → Sp} {x : Str}
    (hn : l.most = some n) (hn2 : n ≤ sizeLine) (hdf : d.params.defaults = []) (hr : Room k callerA)
    (hY : ∀ (w : World) (h : Heap), YP w h → (K w.params).In h)
    (F : ∀ (w : World) (mg : Str → Option Value) (fa : Addr) (h : Heap), (K w.params).In h → h.Ns mainGlobals mg → mg d.name = some (.ref fa) →
      ∃ fd : FuncData, (∀ (s : Shared) (u : Value), BindsTo s fd ⟨[u], []⟩ [(x, u)]) ∧
        ∀ base : Heap, (K w.params).In base → base.Ns mainGlobals mg → FnOk l.prog w (K w.params) mg base (CX w) k fa fd [x] (sp w))
    (hsp : ∀ (w : World) (H : Hp) (a : Addr) (ns : List Int), ns.length ≤ n → Only H → SqL (K w.params) H a (ns.map V.int) → sp w [.ref a] H (fun v _ => v = .bl true) fun _ _ _ => False)
    (hCX : ∀ (w : World) (H : Hp) (s : Shared) (e : Value) (s' : Shared), CX w [] H s (fun _ _ _ => False) e s' → False) :
    PySem.W.WalkO q loose XP YP l.row.toRowW d [] (fun f vs => PySem.call f vs) := by
  refine Att.attach_call hn hdf fun w s₀ s₁ mg mb fa o pm cd doc a vs ns G Y ho hd hcd hmg hobj hints hlen hg => ?_
  have KX := hY w _ Y
  obtain ⟨fd, hb, hF⟩ := F w mg fa _ KX G.T.g hmg
  exact law_call KX G.T.g G.T.b G.T.builtins G.T.nolimit hg hobj hints (Nat.le_trans hlen hn2) hr hF hb (fun H hO hS => hsp w H a ns hlen hO hS) fun H e s' => hCX w H s₁ e s'
end L2
namespace L2
open PySem PySem.Spec PyProof.Rows
def inClass (s : Stmt) (j : Nat) : Stmt := match s with
  | .ClassDef _ _ _ body _ _ _ _ _ _ _ => body.getD j (.Pass ⟨0, 0, 0, 0⟩)
  | _ => .Pass ⟨0, 0, 0, 0⟩
def defArgs (s : Stmt) : Arguments := match s with
  | .FunctionDef _ a _ _ _ _ _ _ _ _ => a
  | _ => { posonlyargs := [], args := [], vararg := none, kwonlyargs := [], kw_defaults := [], kwarg := none, defaults := [] }
def defBody (s : Stmt) : List Stmt := match s with
  | .FunctionDef _ _ b _ _ _ _ _ _ _ => b
  | _ => []
def defScope (s : Stmt) : Scope := match s with
  | .FunctionDef _ _ _ _ _ _ sc _ _ _ => sc
  | _ => { kind := .function, names := [], isGenerator := false, isCoroutine := false }
abbrev CX0 : CXT := fun _ _ _ _ _ _ => False
abbrev E0 : XK := fun _ _ _ => False
theorem pass0 {X : Cx} : Passes CX0 X E0 := fun _ _ _ _ _ _ _ h => h.elim
structure Fun (K : PySem.W.Frag) (x qual : Str) (st : Stmt) (f : Addr) (fd : FuncData) : Prop where
  ex : ∃ (oc : Value) (od : Option Addr) (kV doc pm : Value) (an : Option Addr) (cdv ct : Value) (osl : Array (Option Value)),
    fd = PySem.W.fnOf x qual (defArgs st) (defBody st) (defScope st) .none kV doc pm an cdv ct ∧ K.lookup f = some ⟨oc, od, .func fd, osl⟩ ∧ PySem.W.codeIn K cdv qual = true
  kp : PySem.W.keepIn K (.ref f) = true
section
variable {P : Program} {w : World} {K : PySem.W.Frag} {mg : Str → Option Value} {base : Heap}
theorem Fun.ok {x qual : Str} {st : Stmt} {f : Addr} {fd : FuncData} {N ps : List Str} {k : Nat} {sp : Sp} (F : Fun K x qual st f fd) (S : FnScope N ps (defScope st)) (len : ∀ vs H Q E, sp vs H Q E → vs.length = ps.length)
    (hbody : ∀ (cdv : Value) (A : Around) (outer : List Env) (s : Shared) (H : Hp) (vs : List V) (Q : VK) (E : XK), Room k (A.deeper (envOfC qual (defScope st) s.heap.objs.size f cdv)) → sp vs H Q E →
      ∃ t, PSs (cxOf CX0 P w K mg base N qual (defScope st) f cdv A outer s H E).nox (defBody st) t ∧ t { nx := fun _ H' => Q .non H', rt := Q } (start N vs) H) : FnOk P w K mg base CX0 (k + 1) f fd ps sp := by
  obtain ⟨oc, od, kV, doc, pm, an, cdv, ct, osl, rfl, lk, hcd⟩ := F.ex
  refine fn_of lk hcd S len fun A outer s H vs Q E hr hsp => ?_
  obtain ⟨t, h, q⟩ := hbody cdv A outer s H vs Q E hr hsp
  exact ⟨t, h.nox, q⟩
theorem Fun.binds {x qual : Str} {st : Stmt} {f : Addr} {fd : FuncData} {ps : List Str} (F : Fun K x qual st f fd)
    (h : ∀ (kV doc pm : Value) (an : Option Addr) (cdv ct : Value) (us : List Value), us.length = ps.length → bindArgs (PySem.W.fnOf x qual (defArgs st) (defBody st) (defScope st) .none kV doc pm an cdv ct) ⟨us, []⟩ = pure (ps.zip us)) : Binds K fd ps [] := by
  obtain ⟨oc, od, kV, doc, pm, an, cdv, ct, osl, rfl, lk, hcd⟩ := F.ex
  exact .all (h kV doc pm an cdv ct)
theorem fun_mk {x qual : Str} {st : Stmt} {f : Addr} {oc : Value} {od an : Option Addr} {osl : Array (Option Value)} {kV doc pm cdv ct : Value} (l : K.lookup f = some ⟨oc, od, .func (PySem.W.fnOf x qual (defArgs st) (defBody st) (defScope st) .none kV doc pm an cdv ct), osl⟩)
    (c : PySem.W.codeIn K cdv qual = true) (k : PySem.W.keepIn K (.ref f) = true) : Fun K x qual st f (PySem.W.fnOf x qual (defArgs st) (defBody st) (defScope st) .none kV doc pm an cdv ct) := ⟨⟨oc, od, kV, doc, pm, an, cdv, ct, osl, rfl, l, c⟩, k⟩
end
theorem hu_of {A : Around} {k : Nat} (hr : Room k A) : A.units + 1 < cLine := Nat.lt_of_le_of_lt (Nat.add_le_add_left (by decide : 1 ≤ 64) _) hr.units
theorem small1000 {n : Nat} (h : n ≤ 1000) : n < sizeLine := Nat.lt_of_le_of_lt h (by decide)
section
variable {X : Cx}
theorem pv (i : Nat) {x : Str} {pos : Pos} (hN : X.N[i]? = some x := by rfl) (hv : Vis X.env.scope x := by first | exact Or.inl rfl | exact Or.inr (Or.inl rfl) | exact Or.inr (Or.inr rfl)) (hd : (x == ("__debug__" : Str)) = false := by decide)
    (hcd : (x == ("__classdict__" : Str)) = false := by decide) : PE X (.Name x pos) (tVar i) := pe_var hN hv hd hcd
end
theorem iteF {A B : Prop} (h : B) : if false = true then A else B := by
  rw [if_neg Bool.false_ne_true]
  exact h
theorem iteT {A B : Prop} (h : A) : if true = true then A else B := by
  rw [if_pos rfl]
  exact h
theorem ite2 {c A B : Prop} [Decidable c] (h1 : c → A) (h2 : ¬ c → B) : if c then A else B := by
  by_cases h : c
  · rw [if_pos h]
    exact h1 h
  · rw [if_neg h]
    exact h2 h
def Same (H H' : Hp) : Prop := ∀ b o, H b = some o → H' b = some o
theorem Same.refl (H : Hp) : Same H H := fun _ _ h => h
theorem Same.trans {H H1 H2 : Hp} (a : Same H H1) (b : Same H1 H2) : Same H H2 := fun c o h => b c o (a c o h)
theorem Same.free {H H' : Hp} (e : Same H H') {l : Addr} (h : H' l = Option.none) : H l = Option.none := by
  cases q : H l with
  | none => rfl
  | some o =>
    rw [e l o q] at h
    cases h
theorem Same.seq {K : PySem.W.Frag} {H H' : Hp} {a : Addr} {xs : List V} (e : Same H H') (h : SqL K H a xs) : SqL K H' a xs := by
  rcases h with (h | ⟨o, h⟩) | h
  · exact .inl (.inl (e _ _ h))
  · exact .inl (.inr ⟨o, e _ _ h⟩)
  · exact .inr h
section
variable {κ : Type} [DecidableEq κ]
end
end L2
namespace L2
open PySem PySem.Spec PyProof.Rows
theorem wF {α : Type} {t : Sem α} {Q Q' : α → Shared → Prop} {M : Model} {A : Around} {E : Value → Shared → Prop} {s : Shared} (h : wpAny M A t Q (fun _ _ => False) s) (hQ : ∀ a s, Q a s → Q' a s) : wpAny M A t Q' E s :=
  wpAny_mono h hQ fun _ _ f => f.elim
section
variable {prog : Program} {w : World} {A : Around} {R : Result → Shared → Prop} {s : Shared}
theorem compLoop_gen {elt target iter : Expr} {ifs : List Expr} {scope : Scope} {pos : Pos} {it acc : Value} {env : Env} (I : Nat → Shared → Prop)
    (turn : ∀ n s, I n s → wpAny (model prog w) A (pyNext it) (fun r s₁ => match r with
      | none => R (.ok .next) s₁
      | some v => wpAny (model prog w) A (letOwnedTupleGo target it v) (fun _ s₁' => wpAny (model prog w) A (assign target env v) (fun _ s₂ =>
          wpAny (model prog w) A (forIn ifs true fun c r => if r = true then do let ok ← isTrue c env (eval c env); pure (ForInStep.yield ok) else pure (ForInStep.yield r)) (fun ok s₃ =>
            if ok = true then wpAny (model prog w) A (eval elt env) (fun x s₄ =>
              wpAny (model prog w) A (call (.builtin "list.append") [acc, x]) (fun _ s₅ => ∃ m, m < n ∧ I m s₅) (fun _ _ => False) s₄) (fun _ _ => False) s₃
            else ∃ m, m < n ∧ I m s₃) (fun _ _ => False) s₂) (fun _ _ => False) s₁') (fun _ _ => False) s₁) (fun _ _ => False) s)
    (n : Nat) (h : I n s) : codeAny (model prog w) A (.compLoop (.ListComp elt [⟨target, iter, ifs, 0⟩] scope pos) 0 it acc env) R s := by
  refine codeAny_loop rfl I (fun n s hI => ?_) n h
  show wpAny _ A ((compTurn (.ListComp elt [⟨target, iter, ifs, 0⟩] scope pos) 0 it acc env).onRaise (fun x => do noteFrame x env; theTreesLotGoes x)) _ _ s
  refine wpAny_noted ?_
  rw [compTurn_list]
  refine wpAny_bind (wpAny_standAt (wpAny_bind (wF (turn n s hI) fun r s₁ h₁ => ?_)))
  cases r with
  | none => exact wpAny_pure h₁
  | some v =>
    refine wpAny_bind (wF h₁ fun _ s₁' h₁' => ?_)
    refine wpAny_bind (wF h₁' fun _ s₂ h₂ => wpAny_bind (wF h₂ fun ok s₃ h₃ => ?_))
    cases ok with
    | false => exact wpAny_pure ⟨rfl, h₃⟩
    | true =>
      exact wpAny_bind (wpAny_bind (wF h₃ fun x s₄ h₄ => wpAny_bind (wF h₄ fun _ s₅ h₅ => wpAny_pure (wpAny_pure ⟨rfl, h₅⟩))))
end
theorem closure_of {env : Env} : ∀ (names : List (Str × NameKind)) (cs : List (Str × Addr)), (∀ y ∈ names, y.2 = .free → ∃ c, env.cells.lookup y.1 = some c) → (∀ x c, cs.lookup x = some c → env.cells.lookup x = some c) →
    ∃ cl, (forIn names cs fun (y : Str × NameKind) (r : List (Str × Addr)) => (match y with
        | (name, kind) => if (kind == .free) = true then do let c ← cellOf env name; pure (ForInStep.yield ((name, c) :: r)) else pure (ForInStep.yield r) : Sem (ForInStep (List (Str × Addr))))) = pure cl ∧
      (∀ x c, cl.lookup x = some c → env.cells.lookup x = some c) ∧ (∀ x, (∃ c, cs.lookup x = some c) → ∃ c, cl.lookup x = some c) ∧ ∀ y ∈ names, y.2 = .free → ∃ c, cl.lookup y.1 = some c
  | [], cs, _, hs => ⟨cs, rfl, hs, fun _ z => z, fun _ z => nomatch z⟩
  | (n, k) :: r, cs, hf, hs => by
    have hr : ∀ y ∈ r, y.2 = .free → ∃ c, env.cells.lookup y.1 = some c := fun y hy => hf y (List.mem_cons_of_mem _ hy)
    by_cases e : k = .free
    · subst e
      obtain ⟨c, hc⟩ := hf (n, .free) List.mem_cons_self rfl
      have hs' : ∀ x c', ((n, c) :: cs).lookup x = some c' → env.cells.lookup x = some c' := fun x c' q => by
        rw [List.lookup_cons] at q
        cases z : x == n with
        | true =>
          rw [z] at q
          have : x = n := by simpa using z
          subst this
          cases q
          exact hc
        | false => rw [z] at q; exact hs x c' q
      obtain ⟨cl, e1, e2, e3, e4⟩ := closure_of r ((n, c) :: cs) hr hs'
      have here : ∃ c', cl.lookup n = some c' := e3 n ⟨c, by simp⟩
      refine ⟨cl, ?_, e2, fun x ⟨c', q⟩ => ?_, fun y hy q => ?_⟩
      · rw [List.forIn_cons]
        simp only [cellOf, hc, beq_self_eq_true, if_true, pure_bind]
        exact e1
      · by_cases z : x = n
        · subst z; exact here
        · exact e3 x ⟨c', by rw [List.lookup_cons]; have : (x == n) = false := by simpa using z
                             rw [this]; exact q⟩
      · rcases List.mem_cons.mp hy with rfl | hy
        · exact here
        · exact e4 y hy q
    · obtain ⟨cl, e1, e2, e3, e4⟩ := closure_of r cs hr hs
      refine ⟨cl, ?_, e2, e3, fun y hy q => ?_⟩
      · rw [List.forIn_cons]
        have : (k == NameKind.free) = false := by simpa using e
        simp only [this, Bool.false_eq_true, if_false, pure_bind]
        exact e1
      · rcases List.mem_cons.mp hy with rfl | hy
        · exact absurd q e
        · exact e4 y hy q
theorem closureFor_of {scope : Scope} {env : Env} (hf : ∀ y ∈ scope.names, y.2 = .free → ∃ c, env.cells.lookup y.1 = some c) :
    ∃ cl, closureFor scope env = pure cl ∧ (∀ x c, cl.lookup x = some c → env.cells.lookup x = some c) ∧ ∀ y ∈ scope.names, y.2 = .free → ∃ c, cl.lookup y.1 = some c := by
  obtain ⟨cl, e1, e2, _, e4⟩ := closure_of (env := env) scope.names [] hf (fun _ _ z => nomatch z)
  refine ⟨cl, ?_, e2, e4⟩
  unfold closureFor
  show (forIn scope.names [] _ >>= fun cs => pure cs) = _
  refine Eq.trans (congrArg (· >>= fun cs => pure cs) ?_) (show (pure cl >>= fun cs => pure cs : Sem _) = pure cl from pure_bind _ _)
  refine Eq.trans ?_ e1
  congr 1
def cap (src : List (Option Nat)) (σ : St) : St := src.map fun o => o.bind fun j => (σ[j]?).bind id
def compOk (M : List Str) (sc : Scope) (N : List Str) (src : List (Option Nat)) (scope : Scope) : Bool :=
  decide (scope.kind = .function) && scope.names.all (fun y => decide (y.2 ≠ .cell)) && scope.names.all (fun y => decide (y.2 ≠ .local) || decide (scope.names.lookup y.1 = some .local)) &&
    scope.names.all (fun y => decide (y.2 ≠ .free) || decide (sc.names.lookup y.1 = some .cell)) && decide (src.length = N.length) && decide N.Nodup &&
    (N.zip src).all (fun p => match p.2 with | none => true | some j => decide (M[j]? = some p.1) && decide (scope.names.lookup p.1 = some .free))
structure CompScope (M : List Str) (sc : Scope) (N : List Str) (src : List (Option Nat)) (scope : Scope) : Prop where
  kind : scope.kind = .function
  nocell : ∀ y ∈ scope.names, y.2 ≠ .cell
  names : ∀ y ∈ scope.names, y.2 = .local → scope.names.lookup y.1 = some .local
  free : ∀ y ∈ scope.names, y.2 = .free → sc.names.lookup y.1 = some .cell
  len : src.length = N.length
  nd : N.Nodup
  cap : ∀ (i j : Nat) (x : Str), N[i]? = some x → src[i]? = some (some j) → M[j]? = some x ∧ scope.names.lookup x = some .free
theorem CompScope.of {M : List Str} {sc : Scope} {N : List Str} {src : List (Option Nat)} {scope : Scope} (h : compOk M sc N src scope = true) : CompScope M sc N src scope := by
  unfold compOk at h
  simp only [Bool.and_eq_true, decide_eq_true_eq, List.all_eq_true, Bool.or_eq_true] at h
  obtain ⟨⟨⟨⟨⟨⟨h1, h2⟩, h3⟩, h4⟩, h5⟩, h6⟩, h7⟩ := h
  refine ⟨h1, h2, fun y hy e => (h3 y hy).resolve_left fun z => z e, fun y hy e => (h4 y hy).resolve_left fun z => z e, h5, h6, fun i j x a b => ?_⟩
  have hm : (x, some j) ∈ N.zip src := by
    refine List.mem_iff_getElem?.mpr ⟨i, ?_⟩
    rw [List.getElem?_zip_eq_some]
    exact ⟨a, b⟩
  have q := h7 _ hm
  simpa using q
def cxComp (X : Cx) (N : List Str) (scope : Scope) (cl : List (Str × Addr)) (s₀ : Shared) (H₀ : Hp) (ex : List Addr) (pn : List (Addr × Obj)) : Cx where
  prog := X.prog
  w := X.w
  K := X.K
  mg := X.mg
  base := X.base
  A := X.A
  N := N
  s₀ := s₀
  H₀ := H₀
  env := compEnvC scope cl s₀.heap.objs.size X.env
  outer := X.stack
  stack := X.stack
  ex := ex
  fn := fun _ => false
  calm := X.calm
  pn := pn
  xe := fun _ _ => False
def PTs (Y : Cx) (ifs : List Expr) (t : TT) : Prop :=
  ∀ (pins : List (Addr × Obj)) (s : Shared) (σ : St) (H : Hp) (Q : Bool → Hp → Prop), Inv Y pins σ H s → t σ H Q →
    wpAny (model Y.prog Y.w) Y.A (forIn ifs true fun c r => if r = true then do let ok ← isTrue c Y.env (eval c Y.env); pure (ForInStep.yield ok) else pure (ForInStep.yield r)) (TP Y pins σ Q) Y.xe s
def tTrue : TT := fun _ H Q => Q true H
theorem pts_nil {Y : Cx} : PTs Y [] tTrue := fun _ _ _ H _ I h => wpAny_tests_nil ⟨H, I, h⟩
theorem pts_one {Y : Cx} {c : Expr} {t : TT} (h : PT Y c t) : PTs Y [c] t := fun pins s σ H Q I q => wpAny_tests_one (h pins s σ H Q I q)
def Ext (σ σ' : St) : Prop := ∀ (k : Nat) (v : V), σ[k]? = some (some v) → σ'[k]? = some (some v)
theorem Ext.set {σ : St} {i : Nat} {x : Option V} (h : σ[i]? = some none) : Ext σ (σ.set i x) := fun k v e => by
  by_cases hk : k = i
  · subst hk; rw [h] at e; cases e
  · rw [List.getElem?_set_ne (Ne.symm hk)]; exact e
def tCompB (src : List (Option Nat)) (g : TG) (tt : TT) (te : TE) (σ : St) (J : It) (H1 : Hp) (Q : VK) : Prop :=
  ∀ D, H1 D = none → ∃ W : Nat → Nat → Hp → Prop, (∃ m, W 0 m (upd H1 D (.lst []))) ∧ ∀ i m H2, W i m H2 →
    (J.stop i H2 ∧ Q (.ref D) H2) ∨ (J.go i H2 ∧ ∀ x H3, J.yld i H2 x H3 → g x (cap src σ) H3 fun σ4 H4 => Ext (cap src σ) σ4 ∧ tt σ4 H4 fun b H5 =>
      if b = true then te σ4 H5 fun v H6 => ∃ ys, H6 D = some (.lst ys) ∧ ys.length < sizeLine ∧ ∃ m', m' < m ∧ W (i + 1) m' (upd H6 D (.lst (ys ++ [v]))) else ∃ m', m' < m ∧ W (i + 1) m' H5)
def tComp (src : List (Option Nat)) (wi : TI) (g : TG) (tt : TT) (te : TE) : TE := fun σ H Q => wi σ H fun J H1 => tCompB src g tt te σ J H1 Q
section
variable {X : Cx} {pins : List (Addr × Obj)} {σ : St} {H : Hp} {s : Shared}
theorem kind_relabel {sc : Scope} {env : Env} {x : Str} (h : sc.names.lookup x = some .free) (hk : env.scope.kind = .function) (he : env.kindOf x = some .cell) : (relabel sc env).names.lookup x = some .cell := by
  unfold relabel
  show List.lookup x (sc.names.map _) = _
  have : ∀ l : List (Str × NameKind), l.lookup x = some .free → (l.map fun (n, k) => if (k == NameKind.free && env.scope.kind == .function && env.kindOf n == some .cell) then (n, NameKind.cell) else (n, k)).lookup x = some .cell := by
    intro l
    induction l with
    | nil => intro q; cases q
    | cons a r ih =>
      obtain ⟨n, k⟩ := a
      intro q
      rw [List.lookup_cons] at q
      cases z : x == n with
      | true =>
        rw [z] at q
        have : x = n := by simpa using z
        subst this
        cases q
        simp [he, hk, List.lookup_cons]
      | false =>
        rw [z] at q
        have := ih q
        show List.lookup x ((if (k == NameKind.free && env.scope.kind == .function && env.kindOf n == some .cell) = true then (n, NameKind.cell) else (n, k)) :: _) = _
        by_cases hc : (k == NameKind.free && env.scope.kind == .function && env.kindOf n == some .cell) = true
        · rw [if_pos hc, List.lookup_cons, z]; exact this
        · rw [if_neg hc, List.lookup_cons, z]; exact this
  exact this _ h
theorem vis_relabel {sc : Scope} {env : Env} {x : Str} (h : (relabel sc env).names.lookup x = some .cell ∨ (relabel sc env).names.lookup x = some .free) (hn : ∀ y ∈ sc.names, y.2 ≠ .cell) : (x, NameKind.free) ∈ sc.names := by
  unfold relabel at h
  have key : ∀ l : List (Str × NameKind), (∀ y ∈ l, y.2 ≠ .cell) → ((l.map fun (n, k) => if (k == NameKind.free && env.scope.kind == .function && env.kindOf n == some .cell) then (n, NameKind.cell) else (n, k)).lookup x = some .cell ∨
      (l.map fun (n, k) => if (k == NameKind.free && env.scope.kind == .function && env.kindOf n == some .cell) then (n, NameKind.cell) else (n, k)).lookup x = some .free) → (x, NameKind.free) ∈ l := by
    intro l
    induction l with
    | nil => intro _ q; rcases q with q | q <;> cases q
    | cons a r ih =>
      obtain ⟨n, k⟩ := a
      intro hc q
      have q' : List.lookup x ((if (k == NameKind.free && env.scope.kind == .function && env.kindOf n == some .cell) = true then (n, NameKind.cell) else (n, k)) :: (r.map fun (n, k) => if (k == NameKind.free && env.scope.kind == .function && env.kindOf n == some .cell) then (n, NameKind.cell) else (n, k))) = some .cell ∨
          List.lookup x ((if (k == NameKind.free && env.scope.kind == .function && env.kindOf n == some .cell) = true then (n, NameKind.cell) else (n, k)) :: (r.map fun (n, k) => if (k == NameKind.free && env.scope.kind == .function && env.kindOf n == some .cell) then (n, NameKind.cell) else (n, k))) = some .free := q
      have nk : k ≠ .cell := hc (n, k) List.mem_cons_self
      by_cases c : (k == NameKind.free && env.scope.kind == .function && env.kindOf n == some .cell) = true
      · rw [if_pos c, List.lookup_cons] at q'
        cases z : x == n with
        | true =>
          have e1 : x = n := by simpa using z
          have e2 : k = .free := by
            simp only [Bool.and_eq_true, beq_iff_eq] at c
            exact c.1.1
          rw [e1, e2]
          exact List.mem_cons_self
        | false =>
          rw [z] at q'
          exact List.mem_cons_of_mem _ (ih (fun y hy => hc y (List.mem_cons_of_mem _ hy)) q')
      · rw [if_neg c, List.lookup_cons] at q'
        cases z : x == n with
        | true =>
          rw [z] at q'
          have e1 : x = n := by simpa using z
          rcases q' with q' | q'
          · exact absurd (Option.some.inj q') nk
          · rw [e1, show k = .free from Option.some.inj q']; exact List.mem_cons_self
        | false =>
          rw [z] at q'
          exact List.mem_cons_of_mem _ (ih (fun y hy => hc y (List.mem_cons_of_mem _ hy)) q')
  exact key sc.names hn h
theorem comp_ok {N : List Str} {src : List (Option Nat)} {scope : Scope} {cl : List (Str × Addr)} {fp : List Addr} (I : Inv X pins σ H s) (S : CompScope X.N X.env.scope N src scope)
    (h1 : ∀ x c, cl.lookup x = some c → X.env.cells.lookup x = some c) (h2 : ∀ y ∈ scope.names, y.2 = .free → ∃ c, cl.lookup y.1 = some c) (hf : ∀ b ∈ fp, FpOk X pins H b) (hb : ∀ b ∈ fp, b < s.heap.objs.size) :
    (cxComp X N scope cl s H fp (X.pn ++ pins)).Ok where
  mod := I.ok.mod
  kind := S.kind
  glob := I.ok.glob
  blt := I.ok.blt
  above := Nat.le_refl _
  inj := fun x y c a b => I.ok.inj x y c (h1 _ _ a) (h1 _ _ b)
  has := fun x hx => h2 _ (vis_relabel hx S.nocell) rfl
  cab := fun _ _ z => nomatch z
  hd := I.ok.hd
  frames := I.ok.frames
  stk := .inl rfl
  exf := fun b hm => ⟨Nat.ne_of_lt (hb b hm), fun x c e => (hf b hm).2.2.2.2.1 x c (h1 x c e)⟩
  bs := I.bs
  bsz := Nat.le_trans I.ok.bsz I.sz
  noex := fun b o e hm => by
    rcases (hf b hm).2.2.2.1 with z | z
    · exact I.ok.noex b o e z
    · exact absurd (Nat.lt_of_lt_of_le (Heap.lt_size e) (Nat.le_trans I.ok.bsz z)) (Nat.lt_irrefl _)
  exfs := fun b hm z => by
    rcases List.mem_cons.mp (I.stkSub b z) with e | e
    · exact (hf b hm).2.1 e
    · exact (hf b hm).2.2.1 e
  funs := I.stack
  frf := I.stkFree
theorem cap_get {src : List (Option Nat)} {i : Nat} {v : V} (h : (cap src σ)[i]? = some (some v)) : ∃ j, src[i]? = some (some j) ∧ σ[j]? = some (some v) := by
  unfold cap at h
  rw [List.getElem?_map] at h
  cases e : src[i]? with
  | none => rw [e] at h; cases h
  | some o =>
    rw [e] at h
    cases o with
    | none => cases h
    | some j =>
      refine ⟨j, rfl, ?_⟩
      have h' : (σ[j]?).bind id = some v := Option.some.inj h
      cases z : σ[j]? with
      | none => rw [z] at h'; cases h'
      | some o' => rw [z] at h'; exact congrArg some h'
theorem comp_start {N : List Str} {src : List (Option Nat)} {scope : Scope} {cl : List (Str × Addr)} {fp : List Addr} {h₁ : Heap} {m : Str → Option Value} {t : Nat} (I : Inv X pins σ H s) (S : CompScope X.N X.env.scope N src scope)
    (h1 : ∀ x c, cl.lookup x = some c → X.env.cells.lookup x = some c) (h2 : ∀ y ∈ scope.names, y.2 = .free → ∃ c, cl.lookup y.1 = some c) (hf : ∀ b ∈ fp, FpOk X pins H b) (hb : ∀ b ∈ fp, b < s.heap.objs.size)
    (hn : h₁.Ns s.heap.objs.size m) (hk : ∀ b o, s.heap.get? b = some o → h₁.get? b = some o) : Inv (cxComp X N scope cl s H fp (X.pn ++ pins)) [] (cap src σ) H { s with heap := h₁, toks := t } := by
  have ok := comp_ok I S h1 h2 hf hb
  refine ⟨ok, rfl, I.bare, Un.kept hk, ⟨m, hn, fun i x v e1 e2 e3 => ?_⟩, fun x c e => ?_, ?_, fun x c e => I.freeC x c (h1 x c e), fun p hp => ?_, I.hok.kept hk, ?_⟩
  · obtain ⟨j, q1, q2⟩ := cap_get e2
    obtain ⟨q3, q4⟩ := S.cap i j x e1 q1
    have kc : X.env.scope.names.lookup x = some .cell := S.free (x, .free) (mem_of_lookup q4) rfl
    obtain ⟨m', _, hl⟩ := I.loc
    obtain ⟨u, r, lk⟩ := hl j x v q3 q2 (.inr (.inl kc))
    refine ⟨u, r, .inr ⟨.inl (kind_relabel q4 I.ok.kind kc), ?_⟩⟩
    obtain ⟨c, hc⟩ := h2 (x, .free) (mem_of_lookup q4) rfl
    rcases lk with ⟨z, _⟩ | ⟨_, c', z1, z2⟩
    · have z' : X.env.scope.names.lookup x = some .local := z
      rw [kc] at z'; cases z'
    · have := h1 x c hc
      rw [z1] at this; cases this
      obtain ⟨o, ho, hd⟩ := z2
      exact ⟨c, hc, o, hk _ _ ho, hd⟩
  · obtain ⟨v, o, ho, hd⟩ := I.cell x c (h1 x c e)
    exact ⟨v, o, hk _ _ ho, hd⟩
  · exact I.hok.fresh (Nat.le_refl _)
  · have hp' : p ∈ X.pn ++ pins := (List.mem_append.mp hp).elim id fun z => nomatch z
    obtain ⟨a1, a2, a3, a4, a5⟩ := I.pin p hp'
    refine ⟨hk _ _ a1, a2, Nat.ne_of_lt (Heap.lt_size a1), fun z => ?_, a5⟩
    rcases List.mem_cons.mp (I.stkSub p.1 z) with e | e
    · exact a3 e
    · exact a4 e
  · simp [cap, cxComp, S.len]
theorem comp_end {N : List Str} {scope : Scope} {cl : List (Str × Addr)} {fp : List Addr} {σ5 : St} {H5 : Hp} {s5 : Shared} (I : Inv X pins σ H s) (hf : ∀ b ∈ fp, FpOk X pins H b)
    (I5 : Inv (cxComp X N scope cl s H fp (X.pn ++ pins)) [] σ5 H5 s5) : Inv X pins σ H5 s5 :=
  I.call' (ch := fp) I5.os I5.base I5.hok I5.bare fun b hb => ⟨(hf b hb).2.2.2.1, (hf b hb).2.1, (hf b hb).2.2.2.2.1, (hf b hb).2.2.2.2.2⟩
theorem comp_gone {H5 : Hp} {s5 : Shared} {σ5 : St} {h' : Heap} {C : Addr} (I : Inv X pins σ H s) (hC : s.heap.objs.size ≤ C) (I5 : Inv X pins σ5 H5 s5) (hn : H5 C = none) (hs : Heap.SameBut C s5.heap h') : Inv X pins σ5 H5 { s5 with heap := h' } := by
  refine I5.turned (it := C) (t' := s5.toks) (fun b o hb e => (hs.2 b hb).trans e) hn ?_ (.inr (Nat.le_trans I.sz hC)) (fun x c e => ?_) fun p hp => ?_
  · exact Nat.ne_of_gt (Nat.lt_of_lt_of_le I.lt hC)
  · obtain ⟨v, o, ho, _⟩ := I.cell x c e
    exact Nat.ne_of_lt (Nat.lt_of_lt_of_le (Heap.lt_size ho) hC)
  · exact Nat.ne_of_lt (Nat.lt_of_lt_of_le (Heap.lt_size (I.pin p hp).1) hC)
end
section
variable {X : Cx} {N : List Str} {src : List (Option Nat)} {scope : Scope} {tg iter elt : Expr} {ifs : List Expr} {wi : TI} {g : TG} {tt : TT} {te : TE} {pos spos : Pos}
theorem comp_walk {use : Option (Value → Sem Unit)} {QQ : Value → Shared → Prop} (hc : X.calm = true) (S : CompScope X.N X.env.scope N src scope)
    (hi : PI X tg iter wi) (hg : ∀ cl s H fp pn, PG (cxComp X N scope cl s H fp pn) tg g) (ht : ∀ cl s H fp pn, PTs (cxComp X N scope cl s H fp pn) ifs tt) (he : ∀ cl s H fp pn, PE (cxComp X N scope cl s H fp pn) elt te)
    {pins : List (Addr × Obj)} {s : Shared} {σ : St} {H : Hp} {Q : VK} (I : Inv X pins σ H s) (h : tComp src wi g tt te σ H Q)
    (fin : ∀ (D C : Addr) (H5 : Hp) (s3 s5 : Shared) (H3 : Hp) (m : Str → Option Value), Inv X pins σ H3 s3 → s3.heap.objs.size ≤ C → H5 C = none → s5.heap.Ns C m → Inv X pins σ H5 s5 → Q (.ref D) H5 → compPost (model X.prog X.w) X.A X.xe use QQ (.ref D) C (.ok .next) s5)
    (hs : ∀ x, foldedSetIterable iter X.env x = pure x := by intro _; rfl) :
    wpAny (model X.prog X.w) X.A (comprehension (.ListComp elt [⟨tg, iter, ifs, 0⟩] scope pos) scope X.env (firstIterPos [⟨tg, iter, ifs, 0⟩] pos) (newList []) false (eval iter X.env) use) QQ X.xe s := by
  obtain ⟨cl, ecl, c1, c2⟩ := closureFor_of (scope := scope) (env := X.env) fun y hy e => I.ok.has y.1 (.inl (S.free y hy e))
  refine wpAny_comprehension_free (use := use) rfl hs ecl S.kind S.names (thn (hi pins s σ H _ I h) fun v s1 h1 => thn h1 fun itv s2 h2 => ?_)
  obtain ⟨it, fp, tn, J, H2, e, I2, T, st2, f2, blk⟩ := h2
  subst e
  refine wpAny_newObj_type ?_
  have I3 : Inv X pins σ (upd H2 s2.heap.objs.size (.lst [])) { s2 with heap := s2.heap.push { cls := .type "list", dict := none, data := .seq ([] : List Value).toArray } } := I2.lnew (its := []) (t' := s2.toks) .nil (Nat.zero_le _)
  have hD : H2 s2.heap.objs.size = none := I2.fresh
  obtain ⟨W, ⟨m0, w0⟩, turn⟩ := blk _ hD
  have lt2 : ∀ b ∈ fp, b < s2.heap.objs.size := fun b hb => by
    obtain ⟨o, e, _⟩ := T.obj _ _ st2 b hb
    exact Heap.lt_size e
  have f3 : ∀ b ∈ fp, FpOk X pins (upd H2 s2.heap.objs.size (.lst [])) b := fun b hb => ⟨by rw [upd_ne (Nat.ne_of_lt (lt2 b hb))]; exact (f2 b hb).1, (f2 b hb).2⟩
  have st3 : tn 0 (s2.heap.push { cls := .type "list", dict := none, data := .seq ([] : List Value).toArray }) := T.keep _ _ _ st2 fun b _ o e => Heap.get?_push_of_some _ e
  generalize hS3 : ({ s2 with heap := s2.heap.push { cls := .type "list", dict := none, data := .seq ([] : List Value).toArray } } : Shared) = s3 at I3
  have st3' : tn 0 s3.heap := by rw [← hS3]; exact st3
  have lt3 : ∀ b ∈ fp, b < s3.heap.objs.size := fun b hb => by
    obtain ⟨o, e, _⟩ := T.obj _ _ st3' b hb
    exact Heap.lt_size e
  generalize hH3 : upd H2 s2.heap.objs.size (.lst []) = H3 at I3 f3 w0
  generalize hDD : s2.heap.objs.size = D at turn hH3
  refine wpAny_newFunctionEnv S.nocell (by intro y hy; simp at hy) (fun h₁ hns₁ hsb₁ => ?_) S.kind
  have keep3 : ∀ b o, s3.heap.get? b = some o → h₁.get? b = some o := fun b o e => (hsb₁.2 b (Nat.ne_of_lt (Heap.lt_size e))).trans (Heap.get?_push_of_some _ e)
  have I4 : ∀ t, Inv (cxComp X N scope cl s3 H3 fp (X.pn ++ pins)) [] (cap src σ) H3 { s3 with heap := h₁, toks := t } := fun t => comp_start I3 S c1 c2 f3 lt3 hns₁ keep3
  have st4 : tn 0 h₁ := T.keep _ _ _ st3' fun b _ o e => keep3 b o e
  have frz : ∀ b ∈ fp, H3 b = none := fun b hb => (f3 b hb).1
  -- the iterator's objects, for the block
  have stat : ∀ {H' : Hp}, (∀ b ∈ fp, H' b = none) → ∀ b ∈ fp, FpOk (cxComp X N scope cl s3 H3 fp (X.pn ++ pins)) [] H' b := fun hn b hb =>
    ⟨hn b hb, Nat.ne_of_lt (lt3 b hb), fun z => by
      rcases List.mem_cons.mp (I3.stkSub b z) with e | e
      · exact (f3 b hb).2.1 e
      · exact (f3 b hb).2.2.1 e, .inl hb, fun x c e => (f3 b hb).2.2.2.2.1 x c (c1 x c e), fun p hp => (f3 b hb).2.2.2.2.2 p ((List.mem_append.mp hp).elim id fun z => nomatch z)⟩
  have loop : ∀ t, codeAny (model X.prog X.w) X.A (.compLoop (.ListComp elt [⟨tg, iter, ifs, 0⟩] scope pos) 0 (.ref it) (.ref D) (compEnvC scope cl s3.heap.objs.size X.env))
      (compPost (model X.prog X.w) X.A X.xe use QQ (.ref D) s3.heap.objs.size) { s3 with heap := h₁, toks := t } := fun t => by
    refine compLoop_gen (fun n s' => ∃ i H', Inv (cxComp X N scope cl s3 H3 fp (X.pn ++ pins)) [] (cap src σ) H' s' ∧ tn i s'.heap ∧ (∀ b ∈ fp, H' b = none) ∧ W i n H') ?_ m0 ⟨0, H3, I4 t, st4, frz, w0⟩
    rintro n s5 ⟨i, H5, I5, st5, fr5, w5⟩
    rcases turn i n H5 w5 with ⟨stop, qn⟩ | ⟨go, step⟩
    · refine thn (T.done (cxComp X N scope cl s3 H3 fp (X.pn ++ pins)) rfl rfl rfl hc i [] s5 _ H5 _ I5 (stat fr5) st5 stop) fun r s6 ⟨hr, I6⟩ => ?_
      subst hr
      obtain ⟨mC, hC, _⟩ := I6.loc
      exact fin D s3.heap.objs.size H5 s3 s6 H3 mC I3 (Nat.le_refl _) I6.free hC (comp_end I3 f3 I6) qn
    · refine thn (T.item (cxComp X N scope cl s3 H3 fp (X.pn ++ pins)) rfl rfl rfl hc i [] s5 _ H5 _ I5 (stat fr5) st5 go) fun r s6 ⟨u, hr, h6⟩ => ?_
      subst hr
      refine thn h6 fun _ s7 ⟨x, H7, I7, r7, y7, st7, fr7⟩ => ?_
      have I7' := I7.pinned (stat fr7) (T.obj _ _ st7)
      have again : ∀ {σ9 : St} {H9 : Hp} {s9 : Shared}, Ext (cap src σ) σ9 → Inv (cxComp X N scope cl s3 H3 fp (X.pn ++ pins)) ([] ++ pinsAt fp s7.heap) σ9 H9 s9 → (∃ m', m' < n ∧ W (i + 1) m' H9) →
          ∃ m, m < n ∧ ∃ i H', Inv (cxComp X N scope cl s3 H3 fp (X.pn ++ pins)) [] (cap src σ) H' s9 ∧ tn i s9.heap ∧ (∀ b ∈ fp, H' b = none) ∧ W i m H' := fun {σ9 H9 s9} x9 I9 ⟨m', hm, w9⟩ => by
        refine ⟨m', hm, i + 1, H9, ?_, T.keep _ _ _ st7 fun b hb o e => (I9.pin (b, o) (List.mem_append_right _ (List.mem_append_right _ (mem_pinsAt hb e)))).1, fun b hb => ?_, w9⟩
        · exact (I9.unpinned (pins := [])).weak ((I4 0).len.trans I9.len.symm) x9
        · obtain ⟨o, e, d⟩ := T.obj _ _ st7 b hb
          exact (I9.pin (b, o) (List.mem_append_right _ (List.mem_append_right _ (mem_pinsAt hb e)))).2.1
      refine thn (hg cl s3 H3 fp _ _ s7 _ H7 x u _ I7' r7 (step x H7 y7)) fun _ s8 ⟨σ8, H8, I8, x8, q8⟩ => ?_
      refine thn (ht cl s3 H3 fp _ _ s8 σ8 H8 _ I8 q8) fun b s9 ⟨H9, I9, q9⟩ => ?_
      cases b with
      | false => exact again x8 I9 q9
      | true =>
        simp only [if_true] at q9 ⊢
        refine thn (he cl s3 H3 fp _ _ s9 σ8 H9 _ I9 q9) fun y s10 ⟨v, H10, I10, r10, ys, hy, hz, q10⟩ => ?_
        refine thn (mt_append _ s10 σ8 H10 (.ref D) [v] (.ref D) [y] (fun _ H' => ∃ m', m' < n ∧ W (i + 1) m' H') I10 rfl (.cons r10 .nil) ⟨D, ys, v, rfl, rfl, hy, hz, q10⟩) fun _ s11 ⟨_, H11, I11, _, q11⟩ => ?_
        exact again x8 I11 q11
  show codeAny _ _ (.compStart _ 0 _ _ (compEnvC scope cl s3.heap.objs.size X.env)) _ _
  exact codeAny_compStart_list (loop _) (T.self _ 0 _ _ _ st4 (loop _))
theorem pe_comp (hc : X.calm = true) (S : CompScope X.N X.env.scope N src scope)
    (hi : PI X tg iter wi) (hg : ∀ cl s H fp pn, PG (cxComp X N scope cl s H fp pn) tg g) (ht : ∀ cl s H fp pn, PTs (cxComp X N scope cl s H fp pn) ifs tt) (he : ∀ cl s H fp pn, PE (cxComp X N scope cl s H fp pn) elt te)
    (hs : ∀ x, foldedSetIterable iter X.env x = pure x := by intro _; rfl) : PE X (.ListComp elt [⟨tg, iter, ifs, 0⟩] scope pos) (tComp src wi g tt te) := by
  intro pins s σ H Q I h
  rw [eval_ListComp]
  refine comp_walk (use := none) hc S hi hg ht he I h (fun D C H5 s3 s5 H3 m I3 hC hn hm I5 q => ?_) hs
  exact ⟨m, hm, fun h' hs' => ⟨.ref D, H5, comp_gone I3 hC I5 hn hs', rfl, q⟩⟩
end
theorem comp_src {J : It} {xs : List V} {src : List (Option Nat)} {g : TG} {tt : TT} {te : TE} {σ : St} {H1 : Hp} {Q : VK} (p : V → Bool) (f : V → V) (hz : xs.length ≤ sizeLine)
    (hgo : ∀ i H, Same H1 H → i < xs.length → J.go i H) (hy : ∀ i H x H', Same H1 H → i < xs.length → J.yld i H x H' → H' = H ∧ xs[i]? = some x) (hst : ∀ H, Same H1 H → J.stop xs.length H)
    (hs : ∀ (i : Nat) (x : V) (H3 : Hp) (T : VK) (F : Hp → Prop), xs[i]? = some x → Same H1 H3 → (p x = true → ∀ H6, Same H3 H6 → T (f x) H6) → (p x = false → ∀ H5, Same H3 H5 → F H5) →
      g x (cap src σ) H3 fun σ4 H4 => Ext (cap src σ) σ4 ∧ tt σ4 H4 fun b H5 => if b = true then te σ4 H5 T else F H5)
    (hQ : ∀ D H2, H1 D = none → H2 D = some (.lst ((xs.filter p).map f)) → Same H1 H2 → Q (.ref D) H2) : tCompB src g tt te σ J H1 Q := by
  intro D hD
  refine ⟨fun i m H2 => m = xs.length - i ∧ i ≤ xs.length ∧ H2 D = some (.lst (((xs.take i).filter p).map f)) ∧ Same H1 H2, ⟨xs.length, by simp, Nat.zero_le _, by simpa using upd_same, fun b o e => by rw [upd_ne (ne_of_none e hD)]; exact e⟩, ?_⟩
  rintro i m H2 ⟨rfl, hi, hd, s2⟩
  by_cases hlt : i < xs.length
  · refine .inr ⟨hgo i H2 s2 hlt, fun x H3 y => ?_⟩
    obtain ⟨e, hx⟩ := hy i H2 x H3 s2 hlt y
    subst e
    have et : xs.take (i + 1) = xs.take i ++ [x] := by rw [List.take_add_one, hx]; rfl
    refine hs i x H3 _ _ hx s2 (fun px H6 s6 => ⟨_, s6 _ _ hd, ?_, xs.length - (i + 1), by omega, rfl, hlt, ?_, fun b o e => ?_⟩) (fun px H5 s5 => ⟨xs.length - (i + 1), by omega, rfl, hlt, ?_, s2.trans s5⟩)
    · have l1 : (((xs.take i).filter p).map f).length ≤ i := by
        rw [List.length_map]
        exact Nat.le_trans (List.length_filter_le _ _) (by rw [List.length_take]; exact Nat.min_le_left _ _)
      omega
    · rw [upd_same, et, List.filter_append, List.map_append]
      simp [px]
    · have := s6 _ _ (s2 _ _ e)
      rw [upd_ne (ne_of_none e hD)]; exact this
    · rw [et, List.filter_append, List.map_append]
      simpa [px] using s5 _ _ hd
  · have hin : i = xs.length := by omega
    subst hin
    rw [List.take_length] at hd
    exact .inl ⟨hst H2 s2, hQ D H2 hD hd s2⟩
theorem comp_list {K : PySem.W.Frag} {a : Addr} {xs : List V} {src : List (Option Nat)} {g : TG} {tt : TT} {te : TE} {σ : St} {H1 : Hp} {Q : VK} (p : V → Bool) (f : V → V) (hz : xs.length ≤ sizeLine) (hl : SqL K H1 a xs)
    (hs : ∀ (i : Nat) (x : V) (H3 : Hp) (T : VK) (F : Hp → Prop), xs[i]? = some x → Same H1 H3 → (p x = true → ∀ H6, Same H3 H6 → T (f x) H6) → (p x = false → ∀ H5, Same H3 H5 → F H5) →
      g x (cap src σ) H3 fun σ4 H4 => Ext (cap src σ) σ4 ∧ tt σ4 H4 fun b H5 => if b = true then te σ4 H5 T else F H5)
    (hQ : ∀ D H2, H1 D = none → H2 D = some (.lst ((xs.filter p).map f)) → Same H1 H2 → Q (.ref D) H2) : tCompB src g tt te σ (Itl K a) H1 Q :=
  comp_src p f hz (fun i H s hi => ⟨xs, xs[i], s.seq hl, by simp [hi]⟩) (fun i H x H' s hi y => ⟨y.1, y.2 xs (s.seq hl)⟩) (fun H s => ⟨xs, s.seq hl, Nat.le_refl _⟩) hs hQ
end L2
namespace TS
open PySem SetTable
def adv (mask : Nat) (p : Probe) : Probe :=
  if p.more > 0 then { p with j := p.j + 1, more := p.more - 1 } else
  { p with j := (leap mask p.i p.perturb).1, more := runEnd mask (leap mask p.i p.perturb).1 - (leap mask p.i p.perturb).1, i := (leap mask p.i p.perturb).1, perturb := (leap mask p.i p.perturb).2 }
def runAt (mask i pb : Nat) : Probe := { j := i, more := runEnd mask i - i, i := i, perturb := pb, dummy := none }
def path (mask : Nat) (h : Int) : Nat → Probe
  | 0 => runAt mask (bits h % (mask + 1)) (bits h)
  | n + 1 => adv mask (path mask h n)
theorem start_eq (t : SetTable) (h : Int) : t.probeStart h = path t.mask h 0 := rfl
def lp (mask : Nat) (h : Int) : Nat → Nat × Nat
  | 0 => (bits h % (mask + 1), bits h)
  | k + 1 => leap mask (lp mask h k).1 (lp mask h k).2
theorem runEnd_le (mask i : Nat) : runEnd mask i - i ≤ 9 := by
  unfold runEnd; split <;> omega
theorem runEnd_ge (mask i : Nat) : i ≤ runEnd mask i := by
  unfold runEnd; split <;> omega
theorem runEnd_mask {mask i : Nat} (h : i ≤ mask) : runEnd mask i ≤ mask := by
  unfold runEnd; split <;> omega
theorem lp_le (mask : Nat) (h : Int) : ∀ k, (lp mask h k).1 ≤ mask
  | 0 => Nat.le_of_lt_succ (Nat.mod_lt _ (Nat.succ_pos _))
  | k + 1 => Nat.le_of_lt_succ (Nat.mod_lt _ (Nat.succ_pos _))
theorem lp_pb (mask : Nat) (h : Int) : ∀ k, (lp mask h k).2 = bits h / 32 ^ k
  | 0 => by simp [lp]
  | k + 1 => by
    show (lp mask h k).2 / 32 = _
    rw [lp_pb mask h k, Nat.div_div_eq_div_mul, Nat.pow_succ]
theorem bits_lt (h : Int) : bits h < 2 ^ 64 := by
  unfold bits
  have h1 : h % (2 ^ 64 : Int) < 2 ^ 64 := Int.emod_lt_of_pos _ (by decide)
  have h0 : 0 ≤ h % (2 ^ 64 : Int) := Int.emod_nonneg _ (by decide)
  omega
theorem lp_zero {mask : Nat} {h : Int} {k : Nat} (hk : 13 ≤ k) : (lp mask h k).2 = 0 := by
  rw [lp_pb]
  refine Nat.div_eq_of_lt (Nat.lt_of_lt_of_le (bits_lt h) ?_)
  exact Nat.le_trans (by decide : 2 ^ 64 ≤ 32 ^ 13) (Nat.pow_le_pow_right (by decide) hk)
theorem lp_step {mask : Nat} {h : Int} {k : Nat} (hk : 13 ≤ k) : (lp mask h (k + 1)).1 = ((lp mask h k).1 * 5 + 1) % (mask + 1) := by
  show (leap mask (lp mask h k).1 (lp mask h k).2).1 = _
  unfold leap
  rw [lp_zero hk]
def it (c : Nat) : Nat → Nat → Nat
  | 0, i => i
  | n + 1, i => it c n ((i * 5 + 1) % c)
def orb (c : Nat) : Nat → Nat → List Nat
  | 0, _ => []
  | n + 1, i => i :: orb c n ((i * 5 + 1) % c)
theorem orb_mem {c : Nat} {e : Nat} : ∀ {n i : Nat}, e ∈ orb c n i → ∃ k, k < n ∧ it c k i = e
  | 0, _, h => by simp [orb] at h
  | n + 1, i, h => by
    rcases List.mem_cons.mp h with rfl | h
    · exact ⟨0, Nat.succ_pos _, rfl⟩
    · obtain ⟨k, hk, e⟩ := orb_mem h
      exact ⟨k + 1, Nat.succ_lt_succ hk, e⟩
theorem it_add (c : Nat) : ∀ a b i, it c (a + b) i = it c b (it c a i)
  | 0, b, i => by rw [Nat.zero_add]; rfl
  | a + 1, b, i => by
    rw [Nat.add_right_comm]
    exact it_add c a b _
def okMask (m : Nat) : Prop := m = 7 ∨ m = 31 ∨ m = 127
theorem orb_all {m : Nat} (h : okMask m) : ∀ e, e < m + 1 → e ∈ orb (m + 1) (m + 1) 0 := by
  have key : ∀ c, ((List.range c).all fun e => (orb c c 0).contains e) = true → ∀ e, e < c → e ∈ orb c c 0 := fun c hc e he => by
    have := List.all_eq_true.mp hc e (List.mem_range.mpr he)
    simpa using this
  rcases h with rfl | rfl | rfl
  · exact key 8 (by decide +kernel)
  · exact key 32 (by decide +kernel)
  · exact key 128 (by decide +kernel)
theorem it_back {m : Nat} (h : okMask m) : it (m + 1) (m + 1) 0 = 0 := by
  rcases h with rfl | rfl | rfl <;> decide +kernel
theorem it_reach {m : Nat} (h : okMask m) {i e : Nat} (hi : i < m + 1) (he : e < m + 1) : ∃ n, n < m + 1 ∧ it (m + 1) n i = e := by
  obtain ⟨a, ha, ea⟩ := orb_mem (orb_all h i hi)
  obtain ⟨b, hb, eb⟩ := orb_mem (orb_all h e he)
  by_cases hab : a ≤ b
  · refine ⟨b - a, by omega, ?_⟩
    rw [← ea, ← it_add, show a + (b - a) = b by omega, eb]
  · refine ⟨m + 1 - a + b, by omega, ?_⟩
    rw [← ea, ← it_add, show a + (m + 1 - a + b) = (m + 1) + b by omega, it_add, it_back h, eb]
theorem lp_it {mask : Nat} {h : Int} : ∀ n, (lp mask h (13 + n)).1 = it (mask + 1) n (lp mask h 13).1
  | 0 => rfl
  | n + 1 => by
    rw [show 13 + (n + 1) = (13 + n) + 1 by omega, lp_step (by omega), lp_it n]
    have := it_add (mask + 1) n 1 (lp mask h 13).1
    rw [this]; rfl
theorem lp_reach {m : Nat} (hm : okMask m) (h : Int) {e : Nat} (he : e ≤ m) : ∃ k, k ≤ m + 13 ∧ (lp m h k).1 = e := by
  obtain ⟨n, hn, q⟩ := it_reach hm (i := (lp m h 13).1) (Nat.lt_succ_of_le (lp_le m h 13)) (Nat.lt_succ_of_le he)
  exact ⟨13 + n, by omega, by rw [lp_it]; exact q⟩
theorem path_run {mask : Nat} {h : Int} {n i pb : Nat} (e : path mask h n = runAt mask i pb) : ∀ k, k ≤ runEnd mask i - i → path mask h (n + k) = { runAt mask i pb with j := i + k, more := runEnd mask i - i - k }
  | 0, _ => by rw [Nat.add_zero, e]; simp [runAt]
  | k + 1, hk => by
    show adv mask (path mask h (n + k)) = _
    rw [path_run e k (by omega)]
    unfold adv
    rw [if_pos (show (runEnd mask i - i - k) > 0 by omega)]
    simp only [runAt, Probe.mk.injEq, and_true, true_and]
    omega
theorem path_next {mask : Nat} {h : Int} {n i pb : Nat} (e : path mask h n = runAt mask i pb) : path mask h (n + (runEnd mask i - i) + 1) = runAt mask (leap mask i pb).1 (leap mask i pb).2 := by
  show adv mask (path mask h (n + (runEnd mask i - i))) = _
  rw [path_run e _ (Nat.le_refl _)]
  unfold adv
  rw [if_neg (by simp)]
  rfl
theorem path_lp (mask : Nat) (h : Int) : ∀ k, ∃ n, n ≤ 10 * k ∧ path mask h n = runAt mask (lp mask h k).1 (lp mask h k).2
  | 0 => ⟨0, Nat.le_refl _, rfl⟩
  | k + 1 => by
    obtain ⟨n, hn, e⟩ := path_lp mask h k
    have := runEnd_le mask (lp mask h k).1
    exact ⟨_, by omega, path_next e⟩
theorem path_dummy (mask : Nat) (h : Int) : ∀ n, (path mask h n).dummy = none
  | 0 => rfl
  | n + 1 => by
    show (adv mask (path mask h n)).dummy = none
    unfold adv
    split <;> exact path_dummy mask h n
theorem path_reach {m : Nat} (hm : okMask m) (h : Int) {e : Nat} (he : e ≤ m) : ∃ n, n ≤ 10 * (m + 13) ∧ (path m h n).j = e := by
  obtain ⟨k, hk, q⟩ := lp_reach hm h he
  obtain ⟨n, hn, p⟩ := path_lp m h k
  exact ⟨n, by omega, by rw [p]; exact q⟩
theorem path_ok (mask : Nat) (h : Int) : ∀ n, (path mask h n).j + (path mask h n).more ≤ mask ∧ (path mask h n).i ≤ mask
  | 0 => by
    have h1 : bits h % (mask + 1) ≤ mask := Nat.le_of_lt_succ (Nat.mod_lt _ (Nat.succ_pos _))
    have h2 := runEnd_mask h1
    have h3 := runEnd_ge mask (bits h % (mask + 1))
    refine ⟨?_, h1⟩
    show bits h % (mask + 1) + (runEnd mask (bits h % (mask + 1)) - bits h % (mask + 1)) ≤ mask
    omega
  | n + 1 => by
    obtain ⟨h1, h2⟩ := path_ok mask h n
    show (adv mask (path mask h n)).j + (adv mask (path mask h n)).more ≤ mask ∧ (adv mask (path mask h n)).i ≤ mask
    unfold adv
    split
    · refine ⟨?_, h2⟩
      dsimp only
      omega
    · have g1 : (leap mask (path mask h n).i (path mask h n).perturb).1 ≤ mask := Nat.le_of_lt_succ (Nat.mod_lt _ (Nat.succ_pos _))
      have g2 := runEnd_mask g1
      have g3 := runEnd_ge mask (leap mask (path mask h n).i (path mask h n).perturb).1
      refine ⟨?_, g1⟩
      dsimp only
      omega
theorem path_j_le (mask : Nat) (h : Int) (n : Nat) : (path mask h n).j ≤ mask := by
  have := (path_ok mask h n).1; omega
def Rise (l : List Nat) : Prop := l.Pairwise (· < ·)
theorem Rise.lt {l : List Nat} (r : Rise l) {i j a b : Nat} (h : i < j) (ha : l[i]? = some a) (hb : l[j]? = some b) : a < b := by
  obtain ⟨h1, e1⟩ := List.getElem?_eq_some_iff.mp ha
  obtain ⟨h2, e2⟩ := List.getElem?_eq_some_iff.mp hb
  have := List.pairwise_iff_getElem.mp r i j h1 h2 h
  rw [e1, e2] at this; exact this
theorem below_go (xs : Array Nat) (j : Nat) (r : Rise xs.toList) : ∀ fuel lo hi, hi - lo ≤ fuel → lo ≤ hi → hi ≤ xs.size → (∀ k v, k < lo → xs[k]? = some v → v < j) → (∀ k v, hi ≤ k → xs[k]? = some v → j ≤ v) →
    (∀ k v, k < below.go xs j fuel lo hi → xs[k]? = some v → v < j) ∧ (∀ k v, below.go xs j fuel lo hi ≤ k → xs[k]? = some v → j ≤ v) ∧ below.go xs j fuel lo hi ≤ xs.size
  | 0, lo, hi, hf, hl, hs, h1, h2 => by
    have : lo = hi := by omega
    subst this
    exact ⟨h1, h2, hs⟩
  | fuel + 1, lo, hi, hf, hl, hs, h1, h2 => by
    unfold below.go
    by_cases hlt : lo < hi
    · rw [if_pos hlt]
      have hm : (lo + hi) / 2 < xs.size := by omega
      have eg : xs.getD ((lo + hi) / 2) j = xs[(lo + hi) / 2] := by simp [Array.getD, hm]
      have em : xs[(lo + hi) / 2]? = some xs[(lo + hi) / 2] := by simp [hm]
      dsimp only
      rw [eg]
      by_cases c : xs[(lo + hi) / 2] < j
      · rw [if_pos c]
        refine below_go xs j r fuel _ hi (by omega) (by omega) hs (fun k v hk hv => ?_) h2
        by_cases hk' : k = (lo + hi) / 2
        · subst hk'; rw [em] at hv; cases hv; exact c
        · have : v < xs[(lo + hi) / 2] := r.lt (i := k) (j := (lo + hi) / 2) (by omega) (by simpa using hv) (by simpa using em)
          omega
      · rw [if_neg c]
        refine below_go xs j r fuel lo _ (by omega) (by omega) (by omega) h1 (fun k v hk hv => ?_)
        by_cases hk' : k = (lo + hi) / 2
        · subst hk'; rw [em] at hv; cases hv; omega
        · have : xs[(lo + hi) / 2] < v := r.lt (i := (lo + hi) / 2) (j := k) (by omega) (by simpa using em) (by simpa using hv)
          omega
    · rw [if_neg hlt]
      have : lo = hi := by omega
      subst this
      exact ⟨h1, h2, hs⟩
theorem below_spec {xs : Array Nat} {j : Nat} (r : Rise xs.toList) : (∀ k v, k < below xs j → xs[k]? = some v → v < j) ∧ (∀ k v, below xs j ≤ k → xs[k]? = some v → j ≤ v) ∧ below xs j ≤ xs.size :=
  below_go xs j r xs.size 0 xs.size (by omega) (Nat.zero_le _) (Nat.le_refl _) (fun k v h => by omega) (fun k v h hv => by
    have := (Array.getElem?_eq_some_iff.mp hv).1
    omega)
theorem below_at {xs : Array Nat} {i j : Nat} (r : Rise xs.toList) (h : xs[i]? = some j) : below xs j = i := by
  obtain ⟨h1, h2, h3⟩ := below_spec (j := j) r
  rcases Nat.lt_trichotomy (below xs j) i with c | c | c
  · have hb : below xs j < xs.size := by
      have := (Array.getElem?_eq_some_iff.mp h).1; omega
    have e : xs[below xs j]? = some xs[below xs j] := by simp [hb]
    have g1 := h2 _ _ (Nat.le_refl _) e
    have g2 : xs[below xs j] < j := r.lt c (by simpa using e) (by simpa using h)
    omega
  · exact c
  · have := h1 _ _ c h
    omega
theorem has_nil (j : Nat) : has #[] j = false := by
  unfold has; simp
theorem slot_live {t : SetTable} {i j : Nat} (r : Rise t.place.toList) (h : t.place[i]? = some j) : t.slot j = .live i := by
  unfold slot
  dsimp only
  rw [below_at r h, h]
  simp
theorem slot_live_iff {t : SetTable} {i j : Nat} (h : t.slot j = .live i) : t.place[i]? = some j := by
  unfold slot at h
  dsimp only at h
  split at h
  · rename_i c
    cases h
    simpa using c
  · split at h <;> cases h
theorem slot_empty {t : SetTable} {j : Nat} (hd : t.dummies = #[]) (h : j ∉ t.place.toList) : t.slot j = .empty := by
  unfold slot
  dsimp only
  rw [hd, has_nil]
  have : ¬ ((t.place[below t.place j]? == some j) = true) := by
    intro z
    have z' : t.place[below t.place j]? = some j := by simpa using z
    refine h (List.mem_iff_getElem?.mpr ⟨below t.place j, ?_⟩)
    simpa using z'
  rw [if_neg this]
  simp
theorem slot_not_dummy {t : SetTable} {j : Nat} (hd : t.dummies = #[]) : t.slot j ≠ .dummy := by
  unfold slot
  dsimp only
  rw [hd, has_nil]
  split <;> simp
theorem slot_mem {t : SetTable} {j : Nat} (r : Rise t.place.toList) (hd : t.dummies = #[]) : t.slot j = .empty ↔ j ∉ t.place.toList := by
  refine ⟨fun h hm => ?_, slot_empty hd⟩
  obtain ⟨i, hi⟩ := List.mem_iff_getElem?.mp hm
  rw [slot_live (i := i) r (by simpa using hi)] at h
  cases h
theorem probe_go {t : SetTable} {hashAt : Nat → Int} {h : Int} (hd : t.dummies = #[]) : ∀ (d n fuel : Nat), t.slot (path t.mask h (n + d)).j = .empty → d < fuel →
    ∃ k, k ≤ d ∧ (∀ m, m < k → ∃ i, t.slot (path t.mask h (n + m)).j = .live i ∧ hashAt i ≠ h) ∧
      ((t.slot (path t.mask h (n + k)).j = .empty ∧ probe.go t hashAt h fuel (path t.mask h n) = some (.empty (path t.mask h (n + k)).j none)) ∨
       ∃ i, t.slot (path t.mask h (n + k)).j = .live i ∧ hashAt i = h ∧ k < d ∧ probe.go t hashAt h fuel (path t.mask h n) = some (.candidate (path t.mask h (n + k)).j i (path t.mask h (n + k + 1)))) := by
  intro d
  induction d with
  | zero =>
    intro n fuel he hf
    obtain ⟨f, rfl⟩ : ∃ f, fuel = f + 1 := ⟨fuel - 1, by omega⟩
    refine ⟨0, Nat.le_refl _, fun m hm => by omega, .inl ⟨he, ?_⟩⟩
    unfold probe.go
    rw [show n + 0 = n from rfl] at he ⊢
    rw [he, path_dummy]
  | succ d ih =>
    intro n fuel he hf
    obtain ⟨f, rfl⟩ : ∃ f, fuel = f + 1 := ⟨fuel - 1, by omega⟩
    cases hs : t.slot (path t.mask h n).j with
    | empty =>
      refine ⟨0, Nat.zero_le _, fun m hm => by omega, .inl ⟨hs, ?_⟩⟩
      unfold probe.go
      rw [hs, path_dummy]
      rfl
    | dummy => exact absurd hs (slot_not_dummy hd)
    | live i =>
      by_cases hh : hashAt i = h
      · refine ⟨0, Nat.zero_le _, fun m hm => by omega, .inr ⟨i, hs, hh, Nat.succ_pos _, ?_⟩⟩
        unfold probe.go
        rw [hs]
        simp only [hh, beq_self_eq_true, if_true]
        rfl
      · have he' : t.slot (path t.mask h (n + 1 + d)).j = .empty := by rw [show n + 1 + d = n + (d + 1) by omega]; exact he
        obtain ⟨k, hk, hl, hr⟩ := ih (n + 1) f he' (by omega)
        have go1 : probe.go t hashAt h (f + 1) (path t.mask h n) = probe.go t hashAt h f (path t.mask h (n + 1)) := by
          rw [probe.go, hs]
          have : (hashAt i == h) = false := by simpa using hh
          simp only [this]
          rfl
        refine ⟨k + 1, by omega, fun m hm => ?_, ?_⟩
        · cases m with
          | zero => exact ⟨i, hs, hh⟩
          | succ m =>
            rw [show n + (m + 1) = n + 1 + m by omega]
            exact hl m (by omega)
        · rw [go1, show n + (k + 1) = n + 1 + k by omega]
          rcases hr with hr | ⟨i', a, b, c, e⟩
          · exact .inl hr
          · exact .inr ⟨i', a, b, by omega, e⟩
structure TPre (t : SetTable) (hs : List Int) : Prop where
  mask : okMask t.mask
  size : t.place.size = hs.length
  rise : Rise t.place.toList
  le : ∀ j ∈ t.place.toList, j ≤ t.mask
  dum : t.dummies = #[]
  few : hs.length ≤ t.mask
  path : ∀ (i j : Nat) (h : Int), t.place[i]? = some j → hs[i]? = some h → ∃ n, (path t.mask h n).j = j ∧ ∀ m, m < n → (path t.mask h m).j ∈ t.place.toList
theorem not_all : ∀ (n : Nat) (l : List Nat), l.length ≤ n → ∃ e, e ≤ n ∧ e ∉ l
  | 0, l, h => ⟨0, Nat.le_refl _, by
    have : l = [] := List.length_eq_zero_iff.mp (by omega)
    subst this; simp⟩
  | n + 1, l, h => by
    by_cases c : n + 1 ∈ l
    · obtain ⟨e, he, hn⟩ := not_all n (l.erase (n + 1)) (by rw [List.length_erase_of_mem c]; omega)
      refine ⟨e, by omega, fun z => hn ?_⟩
      exact (List.mem_erase_of_ne (by omega)).mpr z
    · exact ⟨n + 1, Nat.le_refl _, c⟩
theorem TPre.empty {t : SetTable} {hs : List Int} (T : TPre t hs) (h : Int) : ∃ d, d ≤ 10 * (t.mask + 13) ∧ t.slot (TS.path t.mask h d).j = .empty := by
  obtain ⟨e, he, hn⟩ := not_all t.mask t.place.toList (by have := T.size; have := T.few; simp; omega)
  obtain ⟨n, hn', q⟩ := path_reach T.mask h he
  exact ⟨n, hn', by rw [q]; exact slot_empty T.dum hn⟩
theorem TPre.fits {t : SetTable} {hs : List Int} (T : TPre t hs) : t.place.size = hs.length ∧ t.fill ≤ t.mask := by
  refine ⟨T.size, ?_⟩
  unfold fill
  rw [T.dum, T.size]
  simpa using T.few
theorem TPre.odd {t : SetTable} {hs : List Int} (T : TPre t hs) : (t.mask % 2 == 0) = false := by
  rcases T.mask with h | h | h <;> rw [h] <;> rfl
theorem TPre.found {t : SetTable} {hs : List Int} (T : TPre t hs) {h : Int} {n i0 : Nat} (he : t.slot (TS.path t.mask h n).j = .empty) (hi : hs[i0]? = some h) : ∃ m, m < n ∧ t.slot (TS.path t.mask h m).j = .live i0 := by
  have hlt : i0 < t.place.size := by rw [T.size]; exact (List.getElem?_eq_some_iff.mp hi).1
  have ej : t.place[i0]? = some t.place[i0] := by simp [hlt]
  obtain ⟨m, e, hm⟩ := T.path i0 _ h ej hi
  refine ⟨m, ?_, by rw [e]; exact slot_live T.rise ej⟩
  have hmem : (TS.path t.mask h m).j ∈ t.place.toList := by
    rw [e]; exact List.mem_iff_getElem?.mpr ⟨i0, by simpa using ej⟩
  have hne := (slot_mem T.rise T.dum).mp he
  rcases Nat.lt_trichotomy m n with c | c | c
  · exact c
  · subst c; exact absurd hmem hne
  · exact absurd (hm n c) hne
def insL {α : Type} (l : List α) (p : Nat) (x : α) : List α := l.take p ++ x :: l.drop p
theorem insertAt_toList {α : Type} (xs : Array α) (p : Nat) (x : α) : (insertAt xs p x).toList = insL xs.toList p x := by
  unfold insertAt insL
  simp [List.take_of_length_le]
theorem insL_get {α : Type} {l : List α} {p i : Nat} {x y : α} (hp : p ≤ l.length) (h : (insL l p x)[i]? = some y) : (i < p ∧ l[i]? = some y) ∨ (i = p ∧ y = x) ∨ (p < i ∧ l[i - 1]? = some y) := by
  unfold insL at h
  have lt : (l.take p).length = p := by rw [List.length_take]; omega
  rcases Nat.lt_trichotomy i p with c | c | c
  · rw [List.getElem?_append_left (by omega)] at h
    rw [List.getElem?_take_of_lt c] at h
    exact .inl ⟨c, h⟩
  · subst c
    rw [List.getElem?_append_right (by omega), lt] at h
    simp at h
    exact .inr (.inl ⟨rfl, h.symm⟩)
  · rw [List.getElem?_append_right (by omega), lt] at h
    obtain ⟨k, hk⟩ : ∃ k, i - p = k + 1 := ⟨i - p - 1, by omega⟩
    rw [hk, List.getElem?_cons_succ, List.getElem?_drop] at h
    exact .inr (.inr ⟨c, by rw [show i - 1 = p + k by omega]; exact h⟩)
theorem insL_perm {α : Type} (l : List α) (p : Nat) (x : α) : (insL l p x).Perm (x :: l) := by
  unfold insL
  refine List.perm_middle.trans ?_
  rw [List.take_append_drop]
theorem insL_map {α β : Type} (f : α → β) (l : List α) (p : Nat) (x : α) : (insL l p x).map f = insL (l.map f) p (f x) := by
  unfold insL
  simp [List.map_take, List.map_drop]
theorem insL_length {α : Type} (l : List α) (p : Nat) (x : α) : (insL l p x).length = l.length + 1 := by
  have := (insL_perm l p x).length_eq
  simpa using this
theorem insL_mem {α : Type} {l : List α} {p : Nat} {x y : α} : y ∈ insL l p x ↔ y = x ∨ y ∈ l := by
  rw [(insL_perm l p x).mem_iff]; simp
theorem rise_ins {xs : Array Nat} {j : Nat} (r : Rise xs.toList) (hj : j ∉ xs.toList) : Rise (insL xs.toList (below xs j) j) := by
  obtain ⟨h1, h2, h3⟩ := below_spec (j := j) r
  unfold insL Rise
  have hd : ∀ a ∈ xs.toList.drop (below xs j), j < a := fun a ha => by
    obtain ⟨k, hk⟩ := List.mem_iff_getElem?.mp ha
    rw [List.getElem?_drop] at hk
    have := h2 (below xs j + k) a (by omega) (by simpa using hk)
    have hne : a ≠ j := fun z => hj (z ▸ List.mem_of_mem_drop ha)
    omega
  have ht : ∀ a ∈ xs.toList.take (below xs j), a < j := fun a ha => by
    obtain ⟨k, hk⟩ := List.mem_iff_getElem?.mp ha
    have hlt : k < below xs j := by
      have := (List.getElem?_eq_some_iff.mp hk).1
      rw [List.length_take] at this; omega
    rw [List.getElem?_take_of_lt hlt] at hk
    exact h1 k a hlt (by simpa using hk)
  rw [List.pairwise_append]
  refine ⟨List.Pairwise.take r, List.pairwise_cons.mpr ⟨hd, List.Pairwise.drop r⟩, fun a ha b hb => ?_⟩
  rcases List.mem_cons.mp hb with rfl | hb
  · exact ht a ha
  · exact Nat.lt_trans (ht a ha) (hd b hb)
theorem put_ok {t : SetTable} {hs : List Int} {h : Int} {n : Nat} (T : TPre t hs) (he : t.slot (TS.path t.mask h n).j = .empty) (hl : ∀ m, m < n → t.slot (TS.path t.mask h m).j ≠ .empty) (hf : hs.length + 1 ≤ t.mask) :
    TPre (t.put (TS.path t.mask h n).j).1 (insL hs (t.put (TS.path t.mask h n).j).2 h) := by
  have hj := (slot_mem T.rise T.dum).mp he
  have e1 : (t.put (TS.path t.mask h n).j).1.place.toList = insL t.place.toList (below t.place (TS.path t.mask h n).j) (TS.path t.mask h n).j := insertAt_toList _ _ _
  have e2 : (t.put (TS.path t.mask h n).j).2 = below t.place (TS.path t.mask h n).j := rfl
  have e3 : (t.put (TS.path t.mask h n).j).1.mask = t.mask := rfl
  have hb := (below_spec (j := (TS.path t.mask h n).j) T.rise).2.2
  have hm : ∀ k, k ∈ t.place.toList → k ∈ (t.put (TS.path t.mask h n).j).1.place.toList := fun k hk => by rw [e1]; exact insL_mem.mpr (.inr hk)
  refine ⟨T.mask, ?_, ?_, ?_, ?_, ?_, ?_⟩
  · rw [← Array.length_toList, e1, insL_length, insL_length]
    have := T.size
    simpa using this
  · rw [e1]; exact rise_ins T.rise hj
  · intro k hk
    rw [e1] at hk
    rcases insL_mem.mp hk with rfl | hk
    · exact path_j_le _ _ _
    · exact T.le k hk
  · show (if has t.dummies _ then eraseAt t.dummies _ else t.dummies) = #[]
    rw [T.dum, has_nil]; rfl
  · rw [insL_length]; exact hf
  · intro i j h' hi hh
    rw [e2] at hh
    have hi' : (insL t.place.toList (below t.place (TS.path t.mask h n).j) (TS.path t.mask h n).j)[i]? = some j := by
      rw [← e1]; simpa using hi
    have hbl : below t.place (TS.path t.mask h n).j ≤ t.place.toList.length := by simpa using hb
    have hbh : below t.place (TS.path t.mask h n).j ≤ hs.length := by rw [← T.size]; exact hb
    rw [e3]
    rcases insL_get hbl hi' with ⟨c, q⟩ | ⟨c, q⟩ | ⟨c, q⟩
    · rcases insL_get hbh hh with ⟨_, q'⟩ | ⟨c', _⟩ | ⟨c', _⟩
      · obtain ⟨m, a, b⟩ := T.path i j h' (by simpa using q) q'
        exact ⟨m, a, fun k hk => hm _ (b k hk)⟩
      · omega
      · omega
    · rcases insL_get hbh hh with ⟨c', _⟩ | ⟨_, q'⟩ | ⟨c', _⟩
      · omega
      · subst q q'
        refine ⟨n, rfl, fun m hlt => hm _ ?_⟩
        exact Classical.not_not.mp fun z => hl m hlt ((slot_mem T.rise T.dum).mpr z)
      · omega
    · rcases insL_get hbh hh with ⟨c', _⟩ | ⟨c', _⟩ | ⟨_, q'⟩
      · omega
      · omega
      · obtain ⟨m, a, b⟩ := T.path (i - 1) j h' (by simpa using q) q'
        exact ⟨m, a, fun k hk => hm _ (b k hk)⟩
def Own (o : Array (Option Nat)) (j : Nat) : Prop := ∃ k, o[j]? = some (some k)
theorem free_spec {mask : Nat} {o : Array (Option Nat)} (hs : o.size = mask + 1) (h : Int) : ∀ (fuel a n b : Nat), TS.path mask h n = runAt mask (lp mask h a).1 (lp mask h a).2 → a ≤ b → b < a + fuel → o[(lp mask h b).1]? = some none →
    ∃ n', n ≤ n' ∧ layClean.free mask o fuel (lp mask h a).1 (lp mask h a).2 = some (TS.path mask h n').j ∧ o[(TS.path mask h n').j]? = some none ∧ ∀ m, n ≤ m → m < n' → Own o (TS.path mask h m).j
  | 0, a, n, b, _, h1, h2, _ => by omega
  | fuel + 1, a, n, b, e, h1, h2, h3 => by
    have ile := lp_le mask h a
    have ree := runEnd_mask ile
    have reg := runEnd_ge mask (lp mask h a).1
    have inb : ∀ k, k ≤ runEnd mask (lp mask h a).1 - (lp mask h a).1 → ((o.getD ((lp mask h a).1 + k) (some 0)).isNone = true ↔ o[(lp mask h a).1 + k]? = some none) := fun k hk => by
      have hlt : (lp mask h a).1 + k < o.size := by omega
      have eg : o.getD ((lp mask h a).1 + k) (some 0) = o[(lp mask h a).1 + k] := by simp [Array.getD, hlt]
      have eo : o[(lp mask h a).1 + k]? = some o[(lp mask h a).1 + k] := by simp [hlt]
      rw [eg, eo]
      simp
    have pj : ∀ k, k ≤ runEnd mask (lp mask h a).1 - (lp mask h a).1 → (TS.path mask h (n + k)).j = (lp mask h a).1 + k := fun k hk => by rw [path_run e k hk]
    have own : ∀ k, k ≤ runEnd mask (lp mask h a).1 - (lp mask h a).1 → ¬ (o.getD ((lp mask h a).1 + k) (some 0)).isNone = true → Own o (TS.path mask h (n + k)).j := fun k hk hn => by
      rw [pj k hk]
      have hlt : (lp mask h a).1 + k < o.size := by omega
      have eo : o[(lp mask h a).1 + k]? = some o[(lp mask h a).1 + k] := by simp [hlt]
      rw [inb k hk, eo] at hn
      cases q : o[(lp mask h a).1 + k] with
      | none => rw [q] at hn; exact absurd rfl hn
      | some v => exact ⟨v, by rw [eo, q]⟩
    unfold layClean.free
    cases hf : (List.range (runEnd mask (lp mask h a).1 + 1 - (lp mask h a).1)).find? fun k => (o.getD ((lp mask h a).1 + k) (some 0)).isNone with
    | some k =>
      have hk1 := List.find?_some hf
      have hk2 : k < runEnd mask (lp mask h a).1 + 1 - (lp mask h a).1 := List.mem_range.mp (List.mem_of_find?_eq_some hf)
      refine ⟨n + k, by omega, ?_, ?_, fun m a1 a2 => ?_⟩
      · dsimp only
        rw [pj k (by omega)]
      · rw [pj k (by omega)]; exact (inb k (by omega)).mp hk1
      · obtain ⟨d, rfl⟩ : ∃ d, m = n + d := ⟨m - n, by omega⟩
        refine own d (by omega) ?_
        rw [List.find?_range_eq_some] at hf
        have hz : (!(o.getD ((lp mask h a).1 + d) (some 0)).isNone) = true := hf.2.2 d (by omega)
        intro z
        rw [z] at hz
        cases hz
    | none =>
      dsimp only
      have hall : ∀ k, k ≤ runEnd mask (lp mask h a).1 - (lp mask h a).1 → ¬ (o.getD ((lp mask h a).1 + k) (some 0)).isNone = true := fun k hk => by
        have := List.find?_eq_none.mp hf k (List.mem_range.mpr (by omega))
        exact this
      have hb : a ≠ b := fun z => by
        subst z
        have := hall 0 (by omega)
        rw [inb 0 (by omega)] at this
        exact this h3
      obtain ⟨n', g1, g2, g3, g4⟩ := free_spec hs h fuel (a + 1) (n + (runEnd mask (lp mask h a).1 - (lp mask h a).1) + 1) b (path_next e) (by omega) (by omega) h3
      refine ⟨n', by omega, g2, g3, fun m a1 a2 => ?_⟩
      by_cases c : m ≤ n + (runEnd mask (lp mask h a).1 - (lp mask h a).1)
      · obtain ⟨d, rfl⟩ : ∃ d, m = n + d := ⟨m - n, by omega⟩
        exact own d (by omega) (hall d (by omega))
      · exact g4 m (by omega) a2
structure LOk (mask : Nat) (o : Array (Option Nat)) (done : List Int) : Prop where
  size : o.size = mask + 1
  perm : (o.toList.filterMap id).Perm (List.range done.length)
  path : ∀ (k : Nat) (h : Int), done[k]? = some h → ∃ n, o[(TS.path mask h n).j]? = some (some k) ∧ ∀ m, m < n → Own o (TS.path mask h m).j
theorem set_perm : ∀ (l : List (Option Nat)) (j k : Nat), l[j]? = some none → ((l.set j (some k)).filterMap id).Perm (k :: l.filterMap id)
  | [], j, k, h => by simp at h
  | a :: r, 0, k, h => by
    simp at h; subst h; simp
  | a :: r, j + 1, k, h => by
    simp at h
    have ih := set_perm r j k h
    cases a with
    | none => simpa using ih
    | some v =>
      simp only [List.set_cons_succ, List.filterMap_cons, id]
      exact (List.Perm.cons v ih).trans (List.Perm.swap k v _)
theorem lay_step {mask : Nat} (hm : okMask mask) {o : Array (Option Nat)} {done : List Int} (L : LOk mask o done) (h : Int) (hf : done.length ≤ mask) :
    ∃ j, layClean.free mask o (turns mask) (bits h % (mask + 1)) (bits h) = some j ∧ LOk mask (o.setIfInBounds j (some done.length)) (done ++ [h]) := by
  -- a slot that is free
  have hex : ∃ e, e ≤ mask ∧ o[e]? = some none := by
    by_cases c : ∃ e, e ≤ mask ∧ o[e]? = some none
    · exact c
    · exfalso
      have hall : ∀ x ∈ o.toList, x ≠ none := fun x hx z => by
        obtain ⟨e, he⟩ := List.mem_iff_getElem?.mp hx
        have hlt := (List.getElem?_eq_some_iff.mp he).1
        refine c ⟨e, ?_, by subst z; simpa using he⟩
        have := L.size
        simp at hlt; omega
      have hl : (o.toList.filterMap id).length = o.toList.length := by
        have : ∀ l : List (Option Nat), (∀ x ∈ l, x ≠ none) → (l.filterMap id).length = l.length := by
          intro l
          induction l with
          | nil => intro _; rfl
          | cons a r ih =>
            intro q
            cases a with
            | none => exact absurd rfl (q none List.mem_cons_self)
            | some v => simp [ih fun x hx => q x (List.mem_cons_of_mem _ hx)]
        exact this _ hall
      have h1 := L.perm.length_eq
      rw [hl, List.length_range] at h1
      have := L.size
      simp at h1; omega
  obtain ⟨e, he, hn⟩ := hex
  obtain ⟨k, hk, q⟩ := lp_reach hm h he
  obtain ⟨n', _, g2, g3, g4⟩ := free_spec L.size h (turns mask) 0 0 k rfl (Nat.zero_le _) (by unfold turns; omega) (by rw [q]; exact hn)
  refine ⟨_, g2, ?_⟩
  have hlt : (TS.path mask h n').j < o.size := (Array.getElem?_eq_some_iff.mp g3).1
  have keep : ∀ j' k', o[j']? = some (some k') → (o.setIfInBounds (TS.path mask h n').j (some done.length))[j']? = some (some k') := fun j' k' z => by
    have hne : (TS.path mask h n').j ≠ j' := fun w => by rw [← w, g3] at z; cases z
    rw [Array.getElem?_setIfInBounds_ne hne]; exact z
  have keepO : ∀ j', Own o j' → Own (o.setIfInBounds (TS.path mask h n').j (some done.length)) j' := fun j' ⟨k', z⟩ => ⟨k', keep j' k' z⟩
  refine ⟨by rw [Array.size_setIfInBounds]; exact L.size, ?_, fun i h' hi => ?_⟩
  · rw [Array.toList_setIfInBounds, List.length_append, List.length_singleton, List.range_succ]
    refine (set_perm _ _ _ (by simpa using g3)).trans ?_
    refine (List.Perm.cons _ L.perm).trans ?_
    exact (List.perm_append_singleton _ _).symm
  · by_cases c : i < done.length
    · rw [List.getElem?_append_left c] at hi
      obtain ⟨m, a, b⟩ := L.path i h' hi
      exact ⟨m, keep _ _ a, fun k hk => keepO _ (b k hk)⟩
    · have ei : i = done.length := by
        have := (List.getElem?_eq_some_iff.mp hi).1
        simp at this; omega
      subst ei
      simp at hi
      subst hi
      refine ⟨n', ?_, fun m hm' => keepO _ (g4 m (Nat.zero_le _) hm')⟩
      rw [Array.getElem?_setIfInBounds_self_of_lt hlt]
theorem lay_all {mask : Nat} (hm : okMask mask) : ∀ (rest done : List Int) (o : Array (Option Nat)), LOk mask o done → done.length + rest.length ≤ mask + 1 →
    ∃ o', rest.foldl (fun acc h => (do
      let (owner, k) ← acc
      let j ← layClean.free mask owner (turns mask) (bits h % (mask + 1)) (bits h)
      pure (owner.setIfInBounds j (some k), k + 1) : Option (Array (Option Nat) × Nat))) (some (o, done.length)) = some (o', (done ++ rest).length) ∧ LOk mask o' (done ++ rest)
  | [], done, o, L, _ => ⟨o, by simp, by simpa using L⟩
  | h :: r, done, o, L, hf => by
    simp only [List.length_cons] at hf
    obtain ⟨j, e, L'⟩ := lay_step hm L h (by omega)
    obtain ⟨o', e', L''⟩ := lay_all hm r (done ++ [h]) _ L' (by simp; omega)
    refine ⟨o', ?_, by simpa using L''⟩
    rw [List.foldl_cons]
    simp only [Option.bind_eq_bind, Option.bind_some, e, Option.pure_def] at e' ⊢
    rw [show (done ++ [h]).length = done.length + 1 by simp] at e'
    rw [e']
    simp
theorem LOk.nil (mask : Nat) : LOk mask (Array.replicate (mask + 1) none) [] := by
  refine ⟨by simp, ?_, fun k h q => by simp at q⟩
  simp [List.filterMap_replicate]
theorem laid_ok {mask : Nat} (hm : okMask mask) {hs : List Int} (hf : hs.length ≤ mask) (finger moves : Nat) (led plain : Bool) :
    ∃ t' order, laid mask finger moves led plain hs.toArray = some (t', order) ∧ order.toList.Perm (List.range hs.length) ∧ TPre t' (order.toList.map fun k => hs.getD k 0) ∧ t'.mask = mask ∧ t'.led = led ∧ t'.plain = plain := by
  obtain ⟨o, e, L⟩ := lay_all hm hs [] _ (LOk.nil mask) (by simp; omega)
  simp only [List.nil_append, List.length_nil] at e L
  have el : layClean mask hs.toArray = some o := by
    unfold layClean
    rw [List.foldl_toArray]
    exact (congrArg (Option.map (·.1)) e).trans rfl
  have e1 : o.toList = (List.range (mask + 1)).map fun j => o.getD j none := by
    apply List.ext_getElem
    · simp [L.size]
    · intro i h1 h2
      simp at h1
      simp [Array.getD, h1]
  have el2 : laid mask finger moves led plain hs.toArray = some ({ mask, place := (((List.range (mask + 1)).filterMap fun j => (o.getD j none).map (j, ·)).map (·.1)).toArray, dummies := #[], finger, led, moves, plain },
      (((List.range (mask + 1)).filterMap fun j => (o.getD j none).map (j, ·)).map (·.2)).toArray) := by
    unfold laid
    rw [el]
    rfl
  have eo : ((List.range (mask + 1)).filterMap fun j => (o.getD j none).map (j, ·)).map (·.2) = o.toList.filterMap id := by
    rw [e1, List.map_filterMap, List.filterMap_map]
    congr 1
    funext j
    show ((o.getD j none).map (j, ·)).map (·.2) = o.getD j none
    cases o.getD j none <;> rfl
  have ep : ((List.range (mask + 1)).filterMap fun j => (o.getD j none).map (j, ·)).map (·.1) = (List.range (mask + 1)).filter fun j => (o.getD j none).isSome := by
    rw [List.map_filterMap, ← List.filterMap_eq_filter]
    congr 1
    funext j
    cases q : o.getD j none <;> simp [q, Option.guard]
  have mem : ∀ j, Own o j → j ∈ ((List.range (mask + 1)).filterMap fun j => (o.getD j none).map (j, ·)).map (·.1) := fun j ⟨k, q⟩ => by
    rw [ep]
    have hlt : j < o.size := (Array.getElem?_eq_some_iff.mp q).1
    refine List.mem_filter.mpr ⟨List.mem_range.mpr (by rw [← L.size]; exact hlt), ?_⟩
    have : o.getD j none = some k := by
      have := (Array.getElem?_eq_some_iff.mp q).2
      simp [Array.getD, hlt, this]
    rw [this]; rfl
  have at_ : ∀ (i j k : Nat), (((List.range (mask + 1)).filterMap fun j => (o.getD j none).map (j, ·)).map (·.1))[i]? = some j → (((List.range (mask + 1)).filterMap fun j => (o.getD j none).map (j, ·)).map (·.2))[i]? = some k → o[j]? = some (some k) := fun i j k a b => by
    rw [List.getElem?_map] at a b
    cases q : ((List.range (mask + 1)).filterMap fun j => (o.getD j none).map (j, ·))[i]? with
    | none => rw [q] at a; cases a
    | some pr =>
      rw [q] at a b
      have ea : pr.1 = j := by simpa using a
      have eb : pr.2 = k := by simpa using b
      obtain ⟨j', hj', z⟩ := List.mem_filterMap.mp (List.mem_of_getElem? q)
      have hlt : j' < o.size := by rw [L.size]; exact List.mem_range.mp hj'
      have eg : o.getD j' none = o[j'] := by simp [Array.getD, hlt]
      rw [eg] at z
      cases w : o[j'] with
      | none => rw [w] at z; cases z
      | some v =>
        rw [w] at z
        have z' : (j', v) = pr := Option.some.inj z
        subst z'
        simp only at ea eb
        subst ea eb
        simp [hlt, w]
  refine ⟨_, _, el2, ?_, ⟨hm, ?_, ?_, ?_, rfl, ?_, ?_⟩, rfl, rfl, rfl⟩
  · show List.Perm (List.map _ _) _
    rw [eo]; exact L.perm
  · simp
  · show Rise (List.map _ _)
    rw [ep]
    exact List.Pairwise.filter _ List.pairwise_lt_range
  · intro j hj
    have hj' : j ∈ ((List.range (mask + 1)).filterMap fun j => (o.getD j none).map (j, ·)).map (·.1) := hj
    rw [ep] at hj'
    exact Nat.le_of_lt_succ (List.mem_range.mp (List.mem_filter.mp hj').1)
  · have := L.perm.length_eq
    rw [← eo, List.length_range] at this
    simp only [List.length_map] at this ⊢
    show _ ≤ mask
    omega
  · intro i j h hi hh
    rw [List.getElem?_map] at hh
    cases q : (((List.range (mask + 1)).filterMap fun j => (o.getD j none).map (j, ·)).map (·.2))[i]? with
    | none =>
      have q' : (((((List.range (mask + 1)).filterMap fun j => (o.getD j none).map (j, ·)).map (·.2)).toArray).toList)[i]? = none := q
      rw [q'] at hh; cases hh
    | some k =>
      have q' : (((((List.range (mask + 1)).filterMap fun j => (o.getD j none).map (j, ·)).map (·.2)).toArray).toList)[i]? = some k := q
      rw [q'] at hh
      have hk : hs.getD k 0 = h := by simpa using hh
      have hkl : k < hs.length := by
        have : k ∈ o.toList.filterMap id := by rw [← eo]; exact List.mem_of_getElem? q
        exact List.mem_range.mp (L.perm.mem_iff.mp this)
      have hk2 : hs[k]? = some h := by
        rw [List.getD_eq_getElem?_getD] at hk
        have e5 : hs[k]? = some hs[k] := by simp [hkl]
        rw [e5] at hk ⊢
        exact congrArg some hk
      have ej := at_ i j k (by simpa using hi) q
      obtain ⟨n, a, b⟩ := L.path k h hk2
      refine ⟨n, ?_, fun m hm' => mem _ (b m hm')⟩
      -- k is owned once
      show (TS.path mask h n).j = j
      have nd : (o.toList.filterMap id).Nodup := L.perm.nodup_iff.mpr List.nodup_range
      have uniq : ∀ (l : List (Option Nat)) (a b v : Nat), (l.filterMap id).Nodup → l[a]? = some (some v) → l[b]? = some (some v) → a = b := by
        intro l
        induction l with
        | nil => intro a b v _ q; simp at q
        | cons x r ih =>
          intro a b v nd qa qb
          cases x with
          | none =>
            cases a with
            | zero => simp at qa
            | succ a =>
              cases b with
              | zero => simp at qb
              | succ b => exact congrArg Nat.succ (ih a b v (by simpa using nd) (by simpa using qa) (by simpa using qb))
          | some y =>
            simp only [List.filterMap_cons, id] at nd
            obtain ⟨n1, n2⟩ := List.nodup_cons.mp nd
            cases a with
            | zero =>
              cases b with
              | zero => rfl
              | succ b =>
                simp at qa qb
                subst qa
                exact absurd (show y ∈ r.filterMap id from List.mem_filterMap.mpr ⟨some y, List.mem_of_getElem? qb, rfl⟩) n1
            | succ a =>
              cases b with
              | zero =>
                simp at qa qb
                subst qb
                exact absurd (show y ∈ r.filterMap id from List.mem_filterMap.mpr ⟨some y, List.mem_of_getElem? qa, rfl⟩) n1
              | succ b => exact congrArg Nat.succ (ih a b v n2 (by simpa using qa) (by simpa using qb))
      exact uniq o.toList _ _ k nd (by simpa using a) (by simpa using ej)
end TS
namespace TS
open PySem SetTable
section
variable {prog : Program} {w : World} {A : Around} {E : Value → Shared → Prop} {s : Shared}
theorem search_spec {S : Addr} {o : Obj} {es : Array (Int × Value)} {ep : Nat} {t : SetTable} {x : Value} {h : Int} {eqb : Nat → Bool} {Q : SetFound → Shared → Prop}
    (ho : s.heap.get? S = some o) (hd : o.data = .set es ep t) (T : TPre t (es.toList.map (·.1)))
    (hseen : ∀ (l : List Value) (R : Bool → Shared → Prop), (∀ y ∈ l, ∃ e ∈ es.toList, e.2 = y) → R false s → wpAny (model prog w) A (searchCouldBeSeen x l) R E s)
    (heq : ∀ (i : Nat) (y : Value) (R : Bool → Shared → Prop), es[i]? = some (h, y) → R (eqb i) s → wpAny (model prog w) A (eqBool y x) R E s)
    (href : ∀ e ∈ es.toList, ∃ b, e.2 = .ref b)
    (hfound : ∀ i y, es[i]? = some (h, y) → eqb i = true → Q (.there none) s)
    (hfree : ∀ n, t.slot (path t.mask h n).j = .empty → (∀ m, m < n → t.slot (path t.mask h m).j ≠ .empty) → (∀ i y, es[i]? = some (h, y) → eqb i = false) → Q (.free (path t.mask h n).j false) s) :
    ∀ (fuel d n : Nat) (stand : Option Probe), stand.getD (t.probeStart h) = path t.mask h n → t.slot (path t.mask h (n + d)).j = .empty → d < fuel → d < 10 * turns t.mask →
      (∀ m, m < n → ∃ i, t.slot (path t.mask h m).j = .live i ∧ (∀ y, es[i]? = some (h, y) → eqb i = false)) → wpAny (model prog w) A (setSearchFrom S x h true fuel stand) Q E s
  | 0, d, n, stand, _, _, h3, _, _ => by omega
  | fuel + 1, d, n, stand, h1, h2, h3, h4, h5 => by
    have hfit : t.fits es.size = true := by
      have := T.fits
      unfold SetTable.fits
      simp only [List.length_map, Array.length_toList] at this
      simp [this.1, this.2]
    unfold setSearchFrom
    refine wpAny_bind (wpAny_setState_of ho hd hfit ?_)
    dsimp only
    have hg : t.gaveWay = false := T.odd
    rw [hg, h1]
    simp only [Bool.false_eq_true, if_false]
    obtain ⟨k, hk, hl, hr⟩ := probe_go (t := t) (hashAt := fun i => (es[i]?.map (·.1)).getD 0) (h := h) T.dum d n (10 * turns t.mask) h2 h4
    have live : ∀ {m i : Nat}, t.slot (path t.mask h m).j = .live i → i < es.size := fun {m i} q => by
      have q1 := (Array.getElem?_eq_some_iff.mp (slot_live_iff q)).1
      have q2 := T.size
      simp only [List.length_map, Array.length_toList] at q2
      omega
    have before : ∀ m, m < n + k → ∃ i, t.slot (path t.mask h m).j = .live i ∧ (∀ y, es[i]? = some (h, y) → eqb i = false) := fun m hm => by
      by_cases c : m < n
      · exact h5 m c
      · obtain ⟨i, q1, q2⟩ := hl (m - n) (by omega)
        rw [show n + (m - n) = m by omega] at q1
        refine ⟨i, q1, fun y hy => ?_⟩
        refine absurd ?_ q2
        show (es[i]?.map (·.1)).getD 0 = h
        rw [hy]; rfl
    generalize hp : t.probe _ h (path t.mask h n) = pr
    rcases hr with ⟨q1, q2⟩ | ⟨i, q1, q2, q3, q4⟩
    · have e : pr = some (.empty (path t.mask h (n + k)).j none) := hp.symm.trans q2
      subst e
      refine wpAny_pure ?_
      refine hfree (n + k) q1 (fun m hm z => ?_) fun i y hy => ?_
      · obtain ⟨i, z', _⟩ := before m hm
        rw [z] at z'; cases z'
      · obtain ⟨m, hm, hsl⟩ := T.found (n := n + k) (i0 := i) q1 (by rw [List.getElem?_map]; simp [hy])
        obtain ⟨i', z1, z2⟩ := before m hm
        rw [hsl] at z1; cases z1
        exact z2 y hy
    · have e : pr = some (.candidate (path t.mask h (n + k)).j i (path t.mask h (n + k + 1))) := hp.symm.trans q4
      subst e
      dsimp only
      have hi := live q1
      have ei : es[i]? = some es[i] := by simp [hi]
      have ehash : es[i].1 = h := by
        have q2' : (es[i]?.map (·.1)).getD 0 = h := q2
        rw [ei] at q2'; exact q2'
      have ei' : es[i]? = some (h, es[i].2) := by rw [ei, ← ehash]
      obtain ⟨b, hb⟩ := href es[i] (by simp)
      have tail : wpAny (model prog w) A (match es[i]? with
          | some (fst, y) => do
            let equal ← holding [y] (eqBool y x)
            let __x ← setState S
            if (true && equal) = true then pure (SetFound.there none)
              else
                match __x.2.snd.sameMemory t.moves t.mask with
                | some same =>
                  match if same = true then __x.2.snd.slot (path t.mask h (n + k)).j else Slot.empty with
                  | Slot.live i' =>
                    match __x.fst[i']? with
                    | some (fst, y') => do
                      let __do_lift ← isSame y' y
                      let still ← pure (if __do_lift = true then some i' else none)
                      match still with
                        | none => do
                          rule "set.search.anew"
                          setSearchFrom S x h true fuel none
                        | some i' =>
                          if equal = true then pure (SetFound.there (some i'))
                          else setSearchFrom S x h true fuel (some (path t.mask h (n + k + 1)))
                    | none => do
                      let still ← pure none
                      match still with
                        | none => do
                          rule "set.search.anew"
                          setSearchFrom S x h true fuel none
                        | some i' =>
                          if equal = true then pure (SetFound.there (some i'))
                          else setSearchFrom S x h true fuel (some (path t.mask h (n + k + 1)))
                  | x_1 => do
                    let still ← pure none
                    match still with
                      | none => do
                        rule "set.search.anew"
                        setSearchFrom S x h true fuel none
                      | some i' =>
                        if equal = true then pure (SetFound.there (some i'))
                        else setSearchFrom S x h true fuel (some (path t.mask h (n + k + 1)))
                | x => unsupported "set.changed-during-lookup:is-the-new-block-at-the-old-address"
          | x => unsupported "internal:set-entry") Q E s := by
        rw [ei']
        dsimp only
        refine wpAny_bind (wpAny_holding (heq i es[i].2 _ ei' ?_))
        refine wpAny_bind (wpAny_setState_of ho hd hfit ?_)
        dsimp only
        cases hb' : eqb i with
        | true => exact wpAny_pure (hfound i _ ei' hb')
        | false =>
          have sm : t.sameMemory t.moves t.mask = some true := by simp [sameMemory]
          simp only [sm, Bool.and_false, Bool.false_eq_true, if_false, if_true]
          rw [q1]
          dsimp only
          rw [ei']
          dsimp only
          rw [hb]
          refine wpAny_bind (wpAny_of_eq (a := true) (by simp [isSame]) ?_)
          simp only [if_true]
          refine wpAny_bind (wpAny_pure ?_)
          dsimp only
          refine search_spec ho hd T hseen heq href hfound hfree fuel (d - k - 1) (n + k + 1) _ rfl (by rw [show n + k + 1 + (d - k - 1) = n + d by omega]; exact h2) (by omega) (by omega) fun m hm => ?_
          by_cases c : m < n + k
          · exact before m c
          · have : m = n + k := by omega
            subst this
            exact ⟨i, q1, fun y hy => by rw [ei'] at hy; exact hb'⟩
      split
      · refine wpAny_bind (hseen _ _ (fun y hy => ?_) ?_)
        · obtain ⟨e, he, rfl⟩ := List.mem_map.mp hy
          refine ⟨e, ?_, rfl⟩
          have := Array.mem_filter.mp (Array.mem_toList_iff.mp he)
          exact Array.mem_toList_iff.mpr this.1
        · simp only [Bool.false_eq_true, if_false]
          exact tail
      · exact tail
def SetS (h : Heap) (S : Addr) (led : Bool) (es : List (Int × Value)) : Prop :=
  ∃ (ea : Array (Int × Value)) (ep : Nat) (t : SetTable), h.get? S = some { cls := .type "set", dict := none, data := .set ea ep t } ∧ ea.toList = es ∧ TPre t (es.map (·.1)) ∧ es.length * 5 < t.mask * 3 ∧ t.led = led ∧ t.plain = true
theorem SetS.fresh {h : Heap} {S : Addr} {led : Bool} (e : h.get? S = some { cls := .type "set", dict := none, data := .set #[] 0 (.fresh 0 0 led) }) : SetS h S led [] :=
  ⟨#[], 0, .fresh 0 0 led, e, rfl, ⟨.inl rfl, rfl, List.Pairwise.nil, (fun _ z => nomatch z), rfl, Nat.zero_le _, (fun i j h z => by simp [SetTable.fresh] at z)⟩, (show 0 * 5 < 7 * 3 by decide), rfl, rfl⟩
theorem SetS.keep {h h' : Heap} {S : Addr} {led : Bool} {es : List (Int × Value)} (x : SetS h S led es) (k : ∀ o, h.get? S = some o → h'.get? S = some o) : SetS h' S led es := by
  obtain ⟨ea, ep, t, e, r⟩ := x
  exact ⟨ea, ep, t, k _ e, r⟩
theorem relay_spec {S : Addr} {ea : Array (Int × Value)} {ep : Nat} {t : SetTable} {es : List (Int × Value)} {wanted : Nat} {Q : Unit → Shared → Prop}
    (ho : s.heap.get? S = some { cls := .type "set", dict := none, data := .set ea ep t }) (hea : ea.toList = es) (T : TPre t (es.map (·.1))) (hm : okMask (sizeAbove wanted - 1)) (hz : sizeAbove wanted ≤ sizeLine)
    (hr : es.length * 5 < (sizeAbove wanted - 1) * 3) (hp : t.plain = true)
    (h : ∀ h' es', SetS h' S t.led es' → es'.Perm es → Heap.SameBut S s.heap h' → Q () { s with heap := h' }) : wpAny (model prog w) A (setRelay S wanted) Q E s := by
  have hfit : t.fits ea.size = true := by
    have := T.fits
    unfold SetTable.fits
    rw [List.length_map, ← hea, Array.length_toList] at this
    simp [this.1, this.2]
  unfold setRelay
  refine wpAny_bind (wpAny_setState_of ho rfl hfit ?_)
  dsimp only
  rw [if_neg (by omega)]
  obtain ⟨t', order, e1, e2, e3, e4, e5, e6⟩ := laid_ok hm (hs := es.map (·.1)) (by rw [List.length_map]; omega) t.finger (t.movedTo (sizeAbove wanted - 1)) t.led t.plain
  have er : t.relaid (ea.map (·.1)) wanted = some (t', order) := by
    unfold relaid
    rw [← e1]
    congr 1
    apply Array.toList_inj.mp
    simp [hea]
  have n1 : es.length = ea.size := by rw [← hea]; simp
  have lt_of : ∀ k ∈ order.toList, k < ea.size := fun k hk => by
    have := List.mem_range.mp (e2.mem_iff.mp hk)
    rw [List.length_map] at this; omega
  -- the entries in their new order
  have key : ∀ l : List Nat, (∀ k ∈ l, k < ea.size) → (l.filterMap fun k => ea[k]?).length = l.length ∧ (l.filterMap fun k => ea[k]?).map (·.1) = l.map fun k => (es.map (·.1)).getD k 0 := by
    intro l
    induction l with
    | nil => intro _; exact ⟨rfl, rfl⟩
    | cons k r ih =>
      intro hk
      have hk0 : k < ea.size := hk k List.mem_cons_self
      obtain ⟨a, b⟩ := ih fun y hy => hk y (List.mem_cons_of_mem _ hy)
      have e0 : ea[k]? = some ea[k] := by simp [hk0]
      rw [List.filterMap_cons_some e0]
      refine ⟨by simp [a], ?_⟩
      rw [List.map_cons, List.map_cons, b]
      congr 1
      rw [List.getD_eq_getElem?_getD, List.getElem?_map, ← hea]
      simp [hk0]
  obtain ⟨k1, k2⟩ := key order.toList lt_of
  have es' : (order.filterMap (ea[·]?)).toList = order.toList.filterMap fun k => ea[k]? := by simp
  have hlen : order.toList.length = ea.size := by
    have := e2.length_eq
    rw [List.length_range, List.length_map] at this; omega
  have hsz : (order.filterMap (ea[·]?)).size = ea.size := by
    rw [← Array.length_toList, es', k1, hlen]
  rw [er]
  have hperm : (order.filterMap (ea[·]?)).toList.Perm es := by
    rw [es', ← hea]
    refine (e2.filterMap fun k => ea[k]?).trans ?_
    rw [List.length_map, n1, filterMap_getElem?_range]
  refine wpAny_bind (wpAny_of_eq (a := (order.filterMap (ea[·]?), t')) ?_ ?_)
  · show (if (order.filterMap (ea[·]?)).size != ea.size then (unsupported _ : Sem _) >>= fun _ => pure _ else pure _) = _
    rw [hsz]
    simp
  · dsimp only
    refine wpAny_storeSet_of ho rfl ?_ (by rw [hsz]; have := T.few; rw [List.length_map] at this; rcases T.mask with q | q | q <;> rw [q] at this <;> exact Nat.le_trans (n1 ▸ this) (by decide))
    have hget : (s.heap.update S (Obj.putSet (order.filterMap (ea[·]?)) t')).get? S = some { cls := .type "set", dict := none, data := .set (order.filterMap (ea[·]?)) (ep + 1) t' } := by
      rw [Heap.get?_update_self _ ho rfl]; rfl
    refine h _ (order.filterMap (ea[·]?)).toList ⟨_, _, t', hget, rfl, ?_, ?_, e5, e6.trans hp⟩ hperm (Heap.SameBut.update _ _ _)
    · rw [es', k2]; exact e3
    · rw [hperm.length_eq, e4]; exact hr
theorem add_spec {S : Addr} {led : Bool} {es : List (Int × Value)} {x : Value} {h : Int} {eqb : Nat → Bool} {Q : Bool → Shared → Prop} (hS : SetS s.heap S led es) (hn : es.length ≤ 70) (hx : x.scannable = false)
    (hseen : ∀ (l : List Value) (R : Bool → Shared → Prop), (∀ y ∈ l, ∃ e ∈ es, e.2 = y) → R false s → wpAny (model prog w) A (searchCouldBeSeen x l) R E s)
    (heq : ∀ (i : Nat) (y : Value) (R : Bool → Shared → Prop), es[i]? = some (h, y) → R (eqb i) s → wpAny (model prog w) A (eqBool y x) R E s)
    (href : ∀ e ∈ es, ∃ b, e.2 = .ref b) (hby : ∀ R : Bool → Shared → Prop, R true s → wpAny (model prog w) A (hashByValue 8 x) R E s)
    (hold : ∀ i y, es[i]? = some (h, y) → eqb i = true → Q false s)
    (hnew : ∀ h' es', (∀ i y, es[i]? = some (h, y) → eqb i = false) → SetS h' S led es' → es'.Perm ((h, x) :: es) → Heap.SameBut S s.heap h' → Q true { s with heap := h' }) :
    wpAny (model prog w) A (setAddHashed S x h) Q E s := by
  obtain ⟨ea, ep, t, ho, hea, T, hr, hl, hp⟩ := hS
  have n1 : es.length = ea.size := by rw [← hea]; simp
  have hfit : t.fits ea.size = true := by
    have := T.fits
    unfold SetTable.fits
    rw [List.length_map, n1] at this
    simp [this.1, this.2]
  have ge : ∀ i : Nat, es[i]? = ea[i]? := fun i => by rw [← hea]; simp
  unfold setAddHashed setAddHashedIn
  refine wpAny_holding (wpAny_bind (wpAny_setState_of ho rfl hfit ?_))
  dsimp only
  have hbs : byScan x ea = false := by simp [byScan, hx]
  rw [hbs]
  simp only [Bool.false_eq_true, if_false]
  obtain ⟨d, hd, he⟩ := T.empty h
  have hmask : t.mask ≤ 127 := by rcases T.mask with q | q | q <;> omega
  unfold setSearch
  refine wpAny_bind (search_spec (S := S) (x := x) (h := h) (eqb := eqb) ho rfl (by rw [hea]; exact T) (fun l R hl' hR => hseen l R (fun y hy => by rw [← hea]; exact hl' y hy) hR) (fun i y R hi hR => heq i y R (by rw [ge]; exact hi) hR)
    (fun e he' => href e (by rw [← hea]; exact he')) (fun i y hi hb => ?_) (fun n hn1 hn2 hn3 => ?_) 100000 d 0 none rfl (by rw [Nat.zero_add]; exact he) (by omega) (by unfold turns; omega) (fun m hm => by omega))
  · exact wpAny_pure (hold i y (by rw [ge]; exact hi) hb)
  · dsimp only
    refine wpAny_bind (wpAny_setState_of ho rfl hfit ?_)
    dsimp only
    have few : es.length + 1 ≤ t.mask := by rcases T.mask with q | q | q <;> omega
    have T2 : TPre (t.put (path t.mask h n).j).1 ((insL es (t.put (path t.mask h n).j).2 (h, x)).map (·.1)) := by
      rw [insL_map]
      exact put_ok T hn1 hn2 (by rw [List.length_map]; exact few)
    have hpl : (t.put (path t.mask h n).j).1.plain = true := hp
    rw [hpl]
    simp only [if_true]
    refine wpAny_bind (hby _ ?_)
    simp only [if_true]
    refine wpAny_bind (wpAny_storeSet_of ho rfl ?_ ?_)
    · have el : (insertAt ea (t.put (path t.mask h n).j).2 (h, x)).toList = insL es (t.put (path t.mask h n).j).2 (h, x) := by rw [insertAt_toList, hea]
      have hget : (s.heap.update S (Obj.putSet (insertAt ea (t.put (path t.mask h n).j).2 (h, x)) (t.put (path t.mask h n).j).1)).get? S = some { cls := .type "set", dict := none, data := .set (insertAt ea (t.put (path t.mask h n).j).2 (h, x)) (ep + 1) (t.put (path t.mask h n).j).1 } := by
        rw [Heap.get?_update_self _ ho rfl]; rfl
      have hfill : (t.put (path t.mask h n).j).1.fill = es.length + 1 := by
        unfold fill
        rw [T2.dum, T2.size, List.length_map, insL_length]
        simp
      have hno : ∀ i y, es[i]? = some (h, y) → eqb i = false := fun i y hi => hn3 i y (by rw [← ge]; exact hi)
      have hmm : (t.put (path t.mask h n).j).1.mask = t.mask := rfl
      by_cases full : (t.put (path t.mask h n).j).1.tooFull = true
      · rw [full]
        simp only [Bool.not_false, Bool.and_self, if_true]
        have full' : t.mask * 3 ≤ (es.length + 1) * 5 := by
          unfold tooFull at full
          rw [hfill, hmm] at full
          simpa using full
        have hg : grown (ea.size + 1) = (es.length + 1) * 4 := by
          unfold grown
          rw [if_neg (by omega), n1]
        have hw : okMask (sizeAbove (grown (ea.size + 1)) - 1) ∧ sizeAbove (grown (ea.size + 1)) ≤ sizeLine ∧ (es.length + 1) * 5 < (sizeAbove (grown (ea.size + 1)) - 1) * 3 := by
          rw [hg]
          rcases T.mask with q | q | q
          · have : es.length = 4 := by omega
            rw [this]
            exact ⟨.inr (.inl (by decide)), by decide, by decide⟩
          · have : es.length = 18 := by omega
            rw [this]
            exact ⟨.inr (.inr (by decide)), by decide, by decide⟩
          · omega
        refine wpAny_bind (relay_spec (s := { s with heap := s.heap.update S (Obj.putSet (insertAt ea (t.put (path t.mask h n).j).2 (h, x)) (t.put (path t.mask h n).j).1) }) hget el T2 hw.1 hw.2.1 (by rw [insL_length]; exact hw.2.2) hpl fun h' es' s' pe sb => ?_)
        refine wpAny_pure (hnew h' es' hno ?_ (pe.trans (insL_perm _ _ _)) ((Heap.SameBut.update _ _ _).trans sb))
        rw [← hl]; exact s'
      · have full0 : (t.put (path t.mask h n).j).1.tooFull = false := by simpa using full
        rw [full0]
        simp only [Bool.not_false, Bool.and_false, Bool.false_eq_true, if_false]
        have full' : (es.length + 1) * 5 < t.mask * 3 := by
          unfold tooFull at full
          rw [hfill, hmm] at full
          simpa using full
        refine wpAny_pure (hnew _ _ hno ⟨_, _, _, hget, el, T2, ?_, hl, hp⟩ (insL_perm _ _ _) (Heap.SameBut.update _ _ _))
        rw [insL_length, hmm]; exact full'
    · rw [← Array.length_toList, insertAt_toList, insL_length, hea]
      exact Nat.le_trans (Nat.le_trans few hmask) (by decide)
end
end TS
namespace TS
open PySem SetTable
section
variable {prog : Program} {w : World} {A : Around} {E : Value → Shared → Prop} {s : Shared}
theorem items_int {ks : List Int} {vs : List Value} (h : ItemsAre (intKind prog w) ks vs) : ∀ v ∈ vs, ∃ n t, v = Value.int n t := by
  induction h with
  | nil => intro v hv; cases hv
  | cons hk _ ih =>
    intro v hv
    rcases List.mem_cons.mp hv with rfl | hv
    · obtain ⟨t, e⟩ := Value.isInt_shape hk
      exact ⟨_, t, e⟩
    · exact ih v hv
theorem forIn_still {α : Type} {f : α → Option Bool × PUnit → Sem (ForInStep (Option Bool × PUnit))} {Q : Option Bool × PUnit → Shared → Prop} (l : List α)
    (hf : ∀ x ∈ l, ∀ R : ForInStep (Option Bool × PUnit) → Shared → Prop, R (.yield (none, ⟨⟩)) s → wpAny (model prog w) A (f x (none, ⟨⟩)) R E s) (h : Q (none, ⟨⟩) s) : wpAny (model prog w) A (forIn l (none, ⟨⟩) f) Q E s := by
  refine wpAny_forIn_list f (fun rest b s' => (∀ x ∈ rest, x ∈ l) ∧ b = (none, ⟨⟩) ∧ s' = s) Q (fun x rest b s' ⟨h1, h2, h3⟩ => ?_) (fun b s' ⟨_, h2, h3⟩ => by rw [h2, h3]; exact h) l _ ⟨fun _ z => z, rfl, rfl⟩
  subst h2 h3
  exact hf x (h1 x List.mem_cons_self) _ ⟨fun y hy => h1 y (List.mem_cons_of_mem _ hy), rfl, rfl⟩
theorem hashByValue_tup {ks : List Int} {a : Addr} {Q : Bool → Shared → Prop} (hk : IsTupleKey (intKind prog w) s.heap ks a) (h : Q true s) : wpAny (model prog w) A (hashByValue 8 (.ref a)) Q E s := by
  have hT := hk.typeIs
  obtain ⟨o, items, n, ho, _, hd, hi⟩ := hk
  unfold hashByValue
  refine wpAny_bind (wpAny_specialOf hT F.slot_tuple_hash.lookup ?_)
  dsimp only
  refine wpAny_bind (wpAny_seqItems ho hd ?_)
  simp only [Option.getD_some]
  refine wpAny_bind ?_
  rw [← Array.forIn_toList]
  refine forIn_still items.toList (fun x hx R hR => ?_) ?_
  · obtain ⟨n', t', rfl⟩ := items_int hi x hx
    exact wpAny_bind (wpAny_pure (wpAny_pure hR))
  · exact wpAny_pure h
theorem class_int (d : Nat) (n : Int) (t : Tok) : ofAClassStatement d (.int n t) = pure false := by
  cases d <;> rfl
theorem class_tup {ks : List Int} {a : Addr} {Q : Bool → Shared → Prop} (hk : IsTupleKey (intKind prog w) s.heap ks a) (h : Q false s) : wpAny (model prog w) A (ofAClassStatement 8 (.ref a)) Q E s := by
  have hT := hk.typeIs
  obtain ⟨o, items, n, ho, _, hd, hi⟩ := hk
  unfold ofAClassStatement
  refine wpAny_bind (wpAny_typeOf hT ?_)
  dsimp only
  rw [if_pos (by decide)]
  refine wpAny_bind (wpAny_pure ?_)
  simp only [Bool.not_true, Bool.false_eq_true, if_false]
  refine wpAny_bind (wpAny_seqItems ho hd ?_)
  dsimp only
  refine wpAny_bind ?_
  rw [← Array.forIn_toList]
  refine forIn_still items.toList (fun x hx R hR => ?_) ?_
  · obtain ⟨n', t', rfl⟩ := items_int hi x hx
    exact wpAny_bind (wpAny_of_eq (class_int _ _ _) (wpAny_pure hR))
  · exact wpAny_pure h
theorem seen_tup {ks : List Int} {a : Addr} {l : List Value} {Q : Bool → Shared → Prop} (hk : IsTupleKey (intKind prog w) s.heap ks a) (hl : ∀ y ∈ l, ∃ b ks', y = .ref b ∧ IsTupleKey (intKind prog w) s.heap ks' b) (h : Q false s) :
    wpAny (model prog w) A (searchCouldBeSeen (.ref a) l) Q E s := by
  unfold searchCouldBeSeen
  refine wpAny_bind (forIn_still l (fun y hy R hR => ?_) (wpAny_pure h))
  obtain ⟨b, ks', rfl, hb⟩ := hl y hy
  dsimp only
  split
  · exact wpAny_pure hR
  · refine wpAny_bind (wpAny_eqIsQuiet_tuple hk ?_)
    simp only [Bool.not_true, Bool.false_eq_true, if_false]
    refine wpAny_bind (wpAny_eqIsQuiet_tuple hb ?_)
    simp only [Bool.not_true, Bool.false_eq_true, if_false]
    refine wpAny_bind (class_tup hk ?_)
    simp only [Bool.false_eq_true, if_false]
    refine wpAny_bind (class_tup hb ?_)
    simp only [Bool.false_eq_true, if_false]
    exact wpAny_pure hR
structure SetP (prog : Program) (w : World) (h : Heap) (S : Addr) (led : Bool) (ps : List (List Int × Addr)) : Prop where
  ob : SetS h S led (ps.map fun p => (tupleKeyHash (intKind prog w) p.1, Value.ref p.2))
  tup : ∀ p ∈ ps, IsTupleKey (intKind prog w) h p.1 p.2
  nd : (ps.map (·.1)).Nodup
theorem perm_map_inv {α β : Type} {f : α → β} : ∀ {l' : List β} {l : List α}, l'.Perm (l.map f) → ∃ m : List α, l' = m.map f ∧ m.Perm l := by
  intro l' l h
  generalize hm : l.map f = k at h
  induction h generalizing l with
  | nil => exact ⟨[], rfl, by cases l with | nil => exact .nil | cons a r => cases hm⟩
  | cons x h ih =>
    cases l with
    | nil => cases hm
    | cons a r =>
      simp only [List.map_cons, List.cons.injEq] at hm
      obtain ⟨rfl, hm⟩ := hm
      obtain ⟨m, e, p⟩ := ih hm
      exact ⟨a :: m, by rw [e]; rfl, p.cons a⟩
  | swap x y r =>
    cases l with
    | nil => cases hm
    | cons a l =>
      cases l with
      | nil => cases hm
      | cons b l =>
        simp only [List.map_cons, List.cons.injEq] at hm
        obtain ⟨rfl, rfl, rfl⟩ := hm
        exact ⟨b :: a :: l, rfl, .swap a b l⟩
  | trans h1 h2 ih1 ih2 =>
    obtain ⟨m, e, p⟩ := ih2 hm
    obtain ⟨m', e', p'⟩ := ih1 e.symm
    exact ⟨m', e', p'.trans p⟩
theorem IsTupleKey.same {h h' : Heap} {ks : List Int} {a : Addr} (x : IsTupleKey (intKind prog w) h ks a) (k : ∀ o, h.get? a = some o → h'.get? a = some o) : IsTupleKey (intKind prog w) h' ks a := by
  obtain ⟨o, items, n, ho, r⟩ := x
  exact ⟨o, items, n, k o ho, r⟩
theorem add_tup {S a : Addr} {led : Bool} {ps : List (List Int × Addr)} {ks : List Int} {Q : Bool → Shared → Prop} (hS : SetP prog w s.heap S led ps) (hn : ps.length ≤ 70) (hk : IsTupleKey (intKind prog w) s.heap ks a) (hu : A.units < cLine)
    (h : ∀ (b : Bool) (h' : Heap) (t : Nat) (ps' : List (List Int × Addr)), SetP prog w h' S led ps' → (ps' = ps ∧ ks ∈ ps.map (·.1) ∨ ps'.Perm ((ks, a) :: ps)) → Heap.SameBut S s.heap h' → s.toks ≤ t → Q b { s with heap := h', toks := t }) :
    wpAny (model prog w) A (setAdd S (.ref a)) Q E s := by
  have hne : ∀ p ∈ ps, ∃ o, s.heap.get? p.2 = some o ∧ o.cls = .type "tuple" := fun p hp => by
    obtain ⟨o, _, _, ho, hc, _⟩ := hS.tup p hp
    exact ⟨o, ho, hc⟩
  unfold setAdd
  refine wpAny_holding (wpAny_bind (wpAny_pyHash_tuple hu hk ?_))
  have gp : ∀ (i : Nat) (y : Value), (ps.map fun p => (tupleKeyHash (intKind prog w) p.1, Value.ref p.2))[i]? = some (tupleKeyHash (intKind prog w) ks, y) → ∃ p, ps[i]? = some p ∧ y = .ref p.2 := fun i y hy => by
    rw [List.getElem?_map] at hy
    cases e : ps[i]? with
    | none => rw [e] at hy; cases hy
    | some p =>
      rw [e] at hy
      refine ⟨p, rfl, ?_⟩
      have := Option.some.inj hy
      exact (congrArg Prod.snd this).symm
  refine add_spec (s := { s with toks := s.toks + (ks.length + 1) }) (S := S) (led := led) (eqb := fun i => match ps[i]? with | some p => decide (p.1 = ks) | none => false) hS.ob (by rw [List.length_map]; exact hn) rfl
    (fun l R hl hR => seen_tup (s := { s with toks := s.toks + (ks.length + 1) }) hk (fun y hy => ?_) hR) (fun i y R hy hR => ?_) (fun e he => ?_) (fun R hR => hashByValue_tup (s := { s with toks := s.toks + (ks.length + 1) }) hk hR) (fun i y hy hb => ?_) (fun h' es' hno hs' hp hsb => ?_)
  · obtain ⟨e, he, rfl⟩ := hl y hy
    obtain ⟨p, hp, rfl⟩ := List.mem_map.mp he
    exact ⟨p.2, p.1, rfl, hS.tup p hp⟩
  · obtain ⟨p, hp, rfl⟩ := gp i y hy
    simp only [hp] at hR
    exact wpAny_eqBool_tuple (s := { s with toks := s.toks + (ks.length + 1) }) hu (hS.tup p (List.mem_of_getElem? hp)) hk hR
  · obtain ⟨p, hp, rfl⟩ := List.mem_map.mp he
    exact ⟨p.2, rfl⟩
  · obtain ⟨p, hp, rfl⟩ := gp i y hy
    simp only [hp] at hb
    have e : p.1 = ks := of_decide_eq_true hb
    exact h false s.heap _ ps hS (.inl ⟨rfl, List.mem_map.mpr ⟨p, List.mem_of_getElem? hp, e⟩⟩) (Heap.SameBut.refl _ _) (Nat.le_add_right _ _)
  · have hp' : es'.Perm (((ks, a) :: ps).map fun p => (tupleKeyHash (intKind prog w) p.1, Value.ref p.2)) := hp
    obtain ⟨ps', rfl, pp⟩ := perm_map_inv hp'
    have hset : ∃ o, s.heap.get? S = some o ∧ o.cls = .type "set" := by
      obtain ⟨_, _, _, e, _⟩ := hS.ob
      exact ⟨_, e, rfl⟩
    have keep : ∀ (b : Addr) (k' : List Int), IsTupleKey (intKind prog w) s.heap k' b → IsTupleKey (intKind prog w) h' k' b := fun b k' x => IsTupleKey.same x fun o ho => by
      have hb : b ≠ S := fun z => by
        subst z
        obtain ⟨o', _, _, ho', hc', _⟩ := x
        obtain ⟨o2, e2, c2⟩ := hset
        rw [ho'] at e2; cases e2
        rw [hc'] at c2
        injection c2 with z
        exact absurd z (by decide)
      exact (hsb.2 b hb).trans ho
    refine h true h' _ ps' ⟨hs', fun p hp => ?_, ?_⟩ (.inr pp) hsb (Nat.le_add_right _ _)
    · rcases List.mem_cons.mp (pp.mem_iff.mp hp) with rfl | hp
      · exact keep _ _ hk
      · exact keep _ _ (hS.tup p hp)
    · have : (ps'.map (·.1)).Perm (ks :: ps.map (·.1)) := pp.map _
      refine this.nodup_iff.mpr (List.nodup_cons.mpr ⟨fun z => ?_, hS.nd⟩)
      obtain ⟨p, hp, e⟩ := List.mem_map.mp z
      obtain ⟨i, hi⟩ := List.mem_iff_getElem?.mp hp
      have := hno i (.ref p.2) (by rw [List.getElem?_map, hi]; simp [e])
      simp [hi, e] at this
end
end TS
namespace TS
open PySem SetTable PyProof.Rows
section
variable {prog : Program} {w : World} {A : Around} {R : Result → Shared → Prop} {I : Addr} {fp wr : List Addr} {G : Array GenState → Array GenState → Prop} {n : Nat} {P : Nat → Value → Prop} {St : Nat → Shared → Prop}
theorem set_loop (W : WalksS prog w A.in1 I fp wr G n P St) (S : Addr) (hSf : S ∉ fp) {led : Bool} (qs : List (List Int × Addr)) (hq : ∀ i v, P i v → ∃ q, qs[i]? = some q ∧ v = .ref q.2) (hb : n ≤ 64) (hlen : qs.length = n) (hu : A.in1.units < cLine) :
    ∀ (k i : Nat) (s : Shared) (ps : List (List Int × Addr)), n - i = k → i ≤ n → St i s → SetP prog w s.heap S led ps → ps.length ≤ i → (∀ p ∈ ps, p ∈ qs) → (∀ q ∈ qs.take i, q.1 ∈ ps.map (·.1)) →
      (∀ q ∈ qs, q.2 ∉ wr ∧ IsTupleKey (intKind prog w) s.heap q.1 q.2) →
      (∀ s' ps', Moved (S :: wr) G s s' → SetP prog w s'.heap S led ps' → ps'.length ≤ n → (∀ p ∈ ps', p ∈ qs) → (∀ q ∈ qs, q.1 ∈ ps'.map (·.1)) → R (.ok (.ret .none)) s') →
      codeAny (model prog w) A (.builtin "set.update.loop" ⟨[.ref S, .ref I], []⟩) R s := by
  have hSw : S ∉ wr := fun h => hSf (W.sub _ h)
  have hsub : ∀ b ∈ wr, b ∈ S :: wr := fun b hb => List.mem_cons_of_mem _ hb
  -- what the walk leaves as it is
  have setKeep : ∀ {s s' : Shared} {ps : List (List Int × Addr)}, Moved wr G s s' → SetP prog w s.heap S led ps → (∀ q ∈ qs, q.2 ∉ wr ∧ IsTupleKey (intKind prog w) s.heap q.1 q.2) → (∀ p ∈ ps, p ∈ qs) → SetP prog w s'.heap S led ps := fun {s s' ps} hm hS ht hp =>
    ⟨hS.ob.keep fun o ho => hm.heap S o hSw ho, fun p hp' => IsTupleKey.same (ht p (hp p hp')).2 fun o ho => hm.heap _ o (ht p (hp p hp')).1 ho, hS.nd⟩
  have tupKeep : ∀ {s s' : Shared}, Moved wr G s s' → (∀ q ∈ qs, q.2 ∉ wr ∧ IsTupleKey (intKind prog w) s.heap q.1 q.2) → ∀ q ∈ qs, q.2 ∉ wr ∧ IsTupleKey (intKind prog w) s'.heap q.1 q.2 := fun {s s'} hm ht q hq' =>
    ⟨(ht q hq').1, IsTupleKey.same (ht q hq').2 fun o ho => hm.heap _ o (ht q hq').1 ho⟩
  intro k
  induction k with
  | zero =>
    intro i s ps hk hi hst hS hl hp hall ht hR
    have hin : i = n := by omega
    subst hin
    refine codeAny_builtin F.entry_set_update_loop ?_
    rw [Around.under_plainId F.plain_set_update_loop _]
    show wpAny _ A.in1 (pyNext (.ref I) >>= _) _ _ s
    refine wpAny_bind (W.done s _ _ hst fun s' hm => ?_)
    show wpAny _ A.in1 (ret Value.none) _ _ s'
    refine wpAny_pure (hR s' ps (hm.mono hsub) (setKeep hm hS ht hp) hl hp fun q hq' => hall q ?_)
    rw [← hlen, List.take_length]; exact hq'
  | succ k ih =>
    intro i s ps hk hi hst hS hl hp hall ht hR
    have hlt : i < n := by omega
    refine codeAny_builtin F.entry_set_update_loop ?_
    rw [Around.under_plainId F.plain_set_update_loop _]
    show wpAny _ A.in1 (pyNext (.ref I) >>= _) _ _ s
    refine wpAny_bind (W.item i s _ _ hlt hst fun v s' hP hst' hm => ?_)
    obtain ⟨q, hqi, rfl⟩ := hq i v hP
    have hqm : q ∈ qs := List.mem_of_getElem? hqi
    have ht' := tupKeep hm ht
    show wpAny _ A.in1 (holding [Value.ref q.2] (setAdd S (.ref q.2)) >>= _) _ _ s'
    refine wpAny_bind (wpAny_holding (add_tup (setKeep hm hS ht hp) (by omega) (ht' q hqm).2 hu fun b h' t ps' hS' hps hsb htk => ?_))
    have et : qs.take (i + 1) = qs.take i ++ [q] := by rw [List.take_add_one, hqi]; rfl
    have hlen' : ps'.length ≤ i + 1 := by
      rcases hps with ⟨rfl, _⟩ | hps
      · omega
      · rw [hps.length_eq, List.length_cons]; omega
    have hmem : ∀ p, p ∈ ps' ↔ p ∈ ps ∨ (p = q ∧ ps'.Perm (q :: ps)) := fun p => by
      rcases hps with ⟨rfl, hm'⟩ | hps
      · refine ⟨.inl, fun z => z.elim id fun ⟨z1, z2⟩ => ?_⟩
        have := z2.length_eq
        simp at this
      · rw [hps.mem_iff]
        refine ⟨fun z => (List.mem_cons.mp z).elim (fun z => .inr ⟨z, hps⟩) .inl, fun z => z.elim (fun z => List.mem_cons_of_mem _ z) fun z => by rw [z.1]; exact List.mem_cons_self⟩
    refine wpAny_pure ⟨plainId_quiet F.plain_set_update_loop _, ih (i + 1) _ ps' (by omega) hlt (W.frame _ s' _ _ hst' ?_ fun b hb o e => ?_) hS' hlen' (fun p hp' => ?_) (fun q' hq' => ?_) (fun q' hq' => ⟨(ht' q' hq').1, IsTupleKey.same (ht' q' hq').2 fun o ho => ?_⟩) fun s'' ps'' hm'' hS'' a b c => ?_⟩
    · exact htk
    · rw [hsb.2 b (fun h : b = S => hSf (by rw [← h]; exact hb))]; exact e
    · rcases (hmem p).mp hp' with z | z
      · exact hp p z
      · rw [z.1]; exact hqm
    · rw [et] at hq'
      rcases List.mem_append.mp hq' with z | z
      · obtain ⟨p, hp1, hp2⟩ := List.mem_map.mp (hall q' z)
        exact List.mem_map.mpr ⟨p, (hmem p).mpr (.inl hp1), hp2⟩
      · have e : q' = q := by simpa using z
        subst e
        rcases hps with ⟨rfl, hm'⟩ | hps
        · exact hm'
        · exact List.mem_map.mpr ⟨q', hps.mem_iff.mpr List.mem_cons_self, rfl⟩
    · have hne : q'.2 ≠ S := fun z => by
        obtain ⟨o1, _, _, e1, c1, _⟩ := (ht' q' hq').2
        obtain ⟨_, _, _, e2, _⟩ := (setKeep hm hS ht hp).ob
        rw [z, e2] at e1
        cases e1
        injection c1 with z
        exact absurd z (by decide)
      exact (hsb.2 _ hne).trans ho
    · refine hR s'' ps'' (Moved.trans W.gtrans ((hm.mono hsub).then_heap ?_ fun b o hb e => ?_) hm'') hS'' a b c
      · exact htk
      · rw [hsb.2 b (fun h : b = S => hb (by rw [h]; exact List.mem_cons_self))]; exact e
end
section
variable {prog : Program} {w : World} {A : Around} {E : Value → Shared → Prop} {s : Shared}
abbrev ledW (w : World) : Bool := !w.params.followText "set-order"
theorem code_set_new_led (a : Value) {Q₁ : Value → Shared → Prop}
    (h : Q₁ (.ref s.heap.objs.size) { s with heap := s.heap.push { cls := .type "set", dict := none, data := .set #[] 0 (.fresh 0 0 (ledW w)) } }) :
    codeAny (model prog w) A (.call (.builtin "set.__new__") ⟨[.type "set", a], []⟩) (wants Q₁ E) s := by
  refine codeAny_of_tree ?_
  show wpAny _ A.in1 (do checkBuiltinCall "set.__new__" ⟨[.type "set", a], []⟩; again (.builtin "set.__new__" ⟨[.type "set", a], []⟩)) _ _ s
  refine wpAny_bind (wpAny_of_eq (PySem.F.newCall_set_1 a) (wpAny_pure ⟨plainId_quiet PySem.F.plain_set_new _, codeAny_builtin PySem.F.entry_set_new ?_⟩))
  rw [Around.under_plainId PySem.F.plain_set_new _]
  unfold Builtin.«set.__new__» Builtin.Frozenset.newClass
  have hsub := sub_set_self
  obtain ⟨hp, g, d, tk, os⟩ := s
  dsimp only
  wp_walk
  refine wpAny_askSetting (wpAny_pure ?_)
  dsimp only
  simp only [newObj]
  refine wpAny_bind (wpAny_alloc (wpAny_pure ?_))
  exact wpAny_pure h
set_option maxRecDepth 100000 in
set_option maxHeartbeats 3200000 in
theorem call_set_by {l : Addr} {items : Array Value} {Q : Value → Shared → Prop} (Fin : Heap → Prop) (hh : A.handled = none) (hl : s.heap.IsList l items)
    (loop : ∀ (R : Result → Shared → Prop) (h0 : Heap), h0.get? s.heap.objs.size = some { cls := .type "set", dict := none, data := .set #[] 0 (.fresh 0 0 (ledW w)) } → h0.IsListIter (s.heap.objs.size + 1) l 0 → h0.IsList l items → (∀ b o, s.heap.get? b = some o → h0.get? b = some o) →
      (∀ s', Moved [s.heap.objs.size, s.heap.objs.size + 1] (fun a b => b = a) { s with heap := h0 } s' → Fin s'.heap → R (.ok (.ret .none)) s') →
      codeAny (model prog w) A.in1.in1 (.builtin "set.update.loop" ⟨[.ref s.heap.objs.size, .ref (s.heap.objs.size + 1)], []⟩) R { s with heap := h0 })
    (h : ∀ (h' : Heap) (tk : Nat), Fin h' → (∀ b o, b < s.heap.objs.size → s.heap.get? b = some o → h'.get? b = some o) → Q (.ref s.heap.objs.size) { s with heap := h', toks := tk }) :
    wpAny (model prog w) A (call (.type "set") [.ref l]) Q E s := by
  obtain ⟨c, tl, hmro⟩ := PySem.F.called_set.mro
  have hmade := PySem.F.called_set.made
  have hsub := PySem.F.called_set.sub
  refine wpAny_call (codeAny_of_tree ?_)
  show wpAny _ _ (callAny (.type "set") _) _ _ _
  refine wpAny_pure ⟨Code.quiet_builtin _ (by decide +kernel), codeAny_builtin PySem.F.entry_type_call ?_⟩
  rw [Around.under_plain (weight_type_call_type "set" [.ref l] []) rfl]
  have h1 := PySem.F.called_set.notType
  have h2 := PySem.F.called_set.canCreate
  have hct := PySem.F.typeCall_set_1 (.ref l)
  repeat (any_goals (first | assumption | wp_step))
  refine codeAny_mono (code_set_new_led (.ref l) (E := E) (Q₁ := fun obj s₁ => obj = .ref s.heap.objs.size ∧ s₁ = { s with heap := s.heap.push { cls := .type "set", dict := none, data := .set #[] 0 (.fresh 0 0 (ledW w)) } }) ⟨rfl, rfl⟩) fun r s₁ hr => ?_
  cases r with
  | error e => exact hr
  | ok fl =>
    cases fl with
    | ret obj =>
      obtain ⟨rfl, rfl⟩ := hr
      have hS : (s.heap.push { cls := .type "set", dict := none, data := .set #[] 0 (.fresh 0 0 (ledW w)) }).get? s.heap.objs.size = some { cls := .type "set", dict := none, data := .set #[] 0 (.fresh 0 0 (ledW w)) } := Heap.get?_push_size _ rfl
      have hT : Shared.TypeIs { s with heap := s.heap.push { cls := .type "set", dict := none, data := .set #[] 0 (.fresh 0 0 (ledW w)) } } (.ref s.heap.objs.size) "set" := ⟨_, hS, rfl⟩
      have hli := PySem.F.called_set.init.lookup
      have hbi := PySem.F.called_set.init.bind (.ref s.heap.objs.size)
      repeat (any_goals (first | assumption | wp_step))
      refine codeAny_mono (codeAny_call_builtin (R := wants (fun r s₂ => r = .none ∧ ∃ h' tk, s₂ = { s with heap := h', toks := tk } ∧
          Fin h' ∧
          (∀ b o, b < s.heap.objs.size → s.heap.get? b = some o → h'.get? b = some o)) E) PySem.F.called_set.init.plain PySem.F.entry_set_init (check_set_init_1 hT ?_)) fun r₂ s₂ hr₂ => ?_
      · obtain ⟨ol, hol, hcl, nl, hdl⟩ := hl
        obtain ⟨ocls, odict, odata, oslots⟩ := ol
        simp only at hcl hdl
        subst hcl; subst hdl
        have hol' : (s.heap.push { cls := .type "set", dict := none, data := .set #[] 0 (.fresh 0 0 (ledW w)) }).get? l = some { cls := .type "list", dict := odict, data := .seq items nl, slots := oslots } := Heap.get?_push_of_some _ hol
        have hsls := PySem.F.sub_list_set
        have hslf := PySem.F.sub_list_frozenset
        have hne : (Value.type "list" == Value.type "dict") = false := by decide
        have hl1 : (s.heap.push { cls := .type "set", dict := none, data := .set #[] 0 (.fresh 0 0 (ledW w)) }).IsList l items := ⟨_, hol', rfl, nl, rfl⟩
        unfold Builtin.«set.__init__» noKeywords Builtin.Frozenset.updateFrom
        generalize hPI : pyIter = PI
        wp_walk
        subst hPI
        refine wpAny_pyIter_list hl1 ?_
        refine wpAny_bind (wpAny_runValue ?_)
        rw [Heap.size_push]
        refine loop _ _ (Heap.get?_push_of_some _ hS) ⟨{ cls := .type "list_iterator", data := .fields #[.ref l, .int 0 0] }, Heap.get?_push_at (by rw [Heap.size_push]) rfl, rfl, rfl⟩ (hl1.push _) (fun b o e => Heap.get?_push_of_some _ (Heap.get?_push_of_some _ e)) fun s' hm hF => ?_
        · obtain ⟨h', g', d', tk', os'⟩ := s'
          have eg : g' = s.gens := hm.gens
          have ed : d' = s.drawn := hm.drawn
          have eo : os' = s.os := hm.os
          subst eg; subst ed; subst eo
          show wpAny _ _ _ _ _ _
          refine wpAny_pure ?_
          show wpAny _ _ (ret Value.none) _ _ _
          refine wpAny_pure ⟨rfl, h', tk', rfl, hF, fun b o hb e => ?_⟩
          have hb1 : b ≠ s.heap.objs.size := Nat.ne_of_lt hb
          have hb2 : b ≠ s.heap.objs.size + 1 := Nat.ne_of_lt (Nat.lt_succ_of_lt hb)
          exact hm.heap b o (by simp only [List.mem_cons, List.mem_singleton, List.not_mem_nil, or_false, not_or]; exact ⟨hb1, hb2⟩) (Heap.get?_push_of_some _ (Heap.get?_push_of_some _ e))
      · cases r₂ with
        | error e => exact hr₂
        | ok fl₂ =>
          cases fl₂ with
          | ret r =>
            obtain ⟨rfl, h', tk, rfl, hF, hk'⟩ := hr₂
            repeat (any_goals (first | assumption | wp_step))
            exact h _ _ hF hk'
          | _ => exact hr₂.elim
    | _ => exact hr.elim
theorem call_set_tups {l : Addr} {items : Array Value} {qs : List (List Int × Addr)} {Q : Value → Shared → Prop}
    (hh : A.handled = none) (hu : A.units + 8 < cLine) (hl : s.heap.IsList l items) (hi : items.toList = qs.map fun q => Value.ref q.2) (hq : ∀ q ∈ qs, IsTupleKey (intKind prog w) s.heap q.1 q.2) (hb : items.size ≤ 64)
    (h : ∀ (h' : Heap) (tk : Nat) (ps : List (List Int × Addr)), SetP prog w h' s.heap.objs.size (ledW w) ps → ps.length ≤ qs.length → (∀ p ∈ ps, p ∈ qs) → (∀ q ∈ qs, q.1 ∈ ps.map (·.1)) →
      (∀ b o, b < s.heap.objs.size → s.heap.get? b = some o → h'.get? b = some o) → Q (.ref s.heap.objs.size) { s with heap := h', toks := tk }) :
    wpAny (model prog w) A (call (.type "set") [.ref l]) Q E s := by
  have hqn : qs.length = items.size := by
    have := congrArg List.length hi
    simpa using this.symm
  have hll : l < s.heap.objs.size := by obtain ⟨_, e, _⟩ := hl; exact Heap.lt_size e
  refine call_set_by (fun h' => ∃ ps, SetP prog w h' s.heap.objs.size (ledW w) ps ∧ ps.length ≤ qs.length ∧ (∀ p ∈ ps, p ∈ qs) ∧ ∀ q ∈ qs, q.1 ∈ ps.map (·.1)) hh hl (fun R h0 g1 g2 g3 g4 gR => ?_) fun h' tk ⟨ps, a0, a1, a2, a3⟩ hk => h h' tk ps a0 a1 a2 a3 hk
  have hval : ∀ (i : Nat) (v : Value), items[i]? = some v → ∃ q, qs[i]? = some q ∧ v = .ref q.2 := fun i v hv => by
    have hv' : items.toList[i]? = some v := by simpa using hv
    rw [hi, List.getElem?_map] at hv'
    cases e : qs[i]? with
    | none => rw [e] at hv'; cases hv'
    | some q =>
      rw [e] at hv'
      exact ⟨q, rfl, (Option.some.inj hv').symm⟩
  refine set_loop (A := A.in1.in1) (led := ledW w) ((Walks.list (A := A.in1.in1.in1) hh (s.heap.objs.size + 1) l (Nat.ne_of_lt (Nat.lt_succ_of_lt hll)) items).toS) s.heap.objs.size (by simp only [List.mem_cons, List.not_mem_nil, or_false, not_or]; exact ⟨Nat.ne_of_lt (Nat.lt_succ_self _), Nat.ne_of_gt hll⟩) qs hval hb hqn (by simp only [Around.in1_units]; omega) (items.size - 0) 0 _ [] (by omega) (Nat.zero_le _) ⟨g2, g3⟩
    ⟨SetS.fresh g1, (fun _ z => nomatch z), List.nodup_nil⟩ (Nat.le_refl _) (fun _ z => nomatch z) (fun q z => by simp at z) (fun q hq' => ⟨?_, IsTupleKey.same (hq q hq') fun o ho => g4 _ _ ho⟩) fun s' ps hm hS' a1 a2 a3 => gR s' hm ⟨ps, hS', by omega, a2, a3⟩
  obtain ⟨o, _, _, ho, _⟩ := hq q hq'
  have hlt := Heap.lt_size ho
  intro z
  have e := List.mem_singleton.mp z
  rw [e] at hlt
  exact absurd hlt (Nat.not_lt.mpr (Nat.le_succ _))
end
end TS
namespace TS
open PySem SetTable PyProof.Rows
theorem slot_seti_next : Slot "set_iterator" "__next__" "set_iterator.__next__" :=
  .of (owner := "set_iterator") (n := "__next__") (by rw [typeLookup_type, builtinLookup_eq_fast]; kernel_rfl) (by decide +kernel) (by decide +kernel) (by decide +kernel)
    (by first | exact .inl (by decide +kernel) | exact .inr (by decide +kernel)) (by rw [isSubtype_type]; kernel_rfl)
theorem entry_seti_next : entryFor table "set_iterator.__next__" = some Builtin.«set_iterator.__next__» := entryFor_of_tree (by kernel_rfl)
theorem owner_seti : Manifest.owners.lookup (String.ofList ['r', 'o', 't', 'a', 'r', 'e', 't', 'i', '_', 't', 'e', 's'].reverse) = some Manifest.sig_set_iterator := by kernel_rfl
theorem args_seti_next (a : Value) : argsOk "set_iterator.__next__" ⟨[a], []⟩ := by
  unfold argsOk; rw [signature?_of (id := "set_iterator.__next__") (n := ['_', '_', 't', 'x', 'e', 'n', '_', '_']) (o := ['r', 'o', 't', 'a', 'r', 'e', 't', 'i', '_', 't', 'e', 's']) (by kernel_rfl) owner_seti]; kernel_rfl
theorem entry_set_iter : entryFor table "set.__iter__" = some Builtin.«frozenset.__iter__» :=
  entryFor_alias (id' := "frozenset.__iter__") (by kernel_rfl) rfl (by decide +kernel) (by kernel_rfl)
theorem slot_set_len' : Slot "set" "__len__" "set.__len__" :=
  .of (owner := "set") (n := "__len__") (by rw [typeLookup_type, builtinLookup_eq_fast]; kernel_rfl) (by decide +kernel) (by decide +kernel) (by decide +kernel)
    (by first | exact .inl (by decide +kernel) | exact .inr (by decide +kernel)) (by rw [isSubtype_type]; kernel_rfl)
def walkOf (w : World) (S ep : Nat) (es : Array (Int × Value)) : Array (Int × Value) := if w.params.followText "set-order" = true then pickOrder (w.params.setOrder S ep) es else es
theorem erase_perm {α : Type} : ∀ (l : List α) (i : Nat) (h : i < l.length), (l[i] :: l.eraseIdx i).Perm l
  | a :: r, 0, _ => by simp
  | a :: r, i + 1, h => by
    simp only [List.getElem_cons_succ, List.eraseIdx_cons_succ]
    exact (List.Perm.swap a _ _).trans ((erase_perm r i (by simpa using h)).cons a)
theorem pick_go {α : Type} (next : Nat → Nat) : ∀ (fuel k : Nat) (left : List α) (out : Array α), left.length ≤ fuel → (pickOrder.go next fuel k left out).toList.Perm (out.toList ++ left)
  | 0, k, left, out, h => by
    have : left = [] := List.length_eq_zero_iff.mp (by omega)
    subst this
    simp [pickOrder.go]
  | fuel + 1, k, left, out, h => by
    unfold pickOrder.go
    cases left with
    | nil => simp
    | cons a r =>
      have hlt : next k % (a :: r).length < (a :: r).length := Nat.mod_lt _ (by simp)
      have e : (a :: r)[next k % (a :: r).length]? = some (a :: r)[next k % (a :: r).length] := by simp [hlt]
      rw [e]
      dsimp only
      refine (pick_go next fuel (k + 1) _ _ (by rw [List.length_eraseIdx]; simp only [List.length_cons] at h hlt ⊢; rw [if_pos hlt]; omega)).trans ?_
      rw [Array.toList_push, List.append_assoc]
      refine List.Perm.append_left _ ?_
      have := erase_perm (a :: r) _ hlt
      simpa using this
theorem walk_perm (w : World) (S ep : Nat) (es : Array (Int × Value)) : (walkOf w S ep es).toList.Perm es.toList := by
  unfold walkOf
  split
  · have := pick_go (w.params.setOrder S ep) es.size 0 es.toList #[] (by simp)
    simpa [pickOrder] using this
  · exact .rfl
def IsSetIter (h : Heap) (I S slot given n ep : Nat) : Prop := ∃ o, h.get? I = some o ∧ o.cls = .type "set_iterator" ∧ o.data = .fields #[.int slot 0, .int given 0, .ref S, .int n 0, .int ep 0]
theorem IsSetIter.typeIs {s : Shared} {I S slot given n ep : Nat} (h : IsSetIter s.heap I S slot given n ep) : s.TypeIs (.ref I) "set_iterator" := let ⟨o, ho, hc, _⟩ := h; ⟨o, ho, hc⟩
def SetW (w : World) (h : Heap) (S ep : Nat) (ea : Array (Int × Value)) (t : SetTable) : Prop :=
  h.get? S = some { cls := .type "set", dict := none, data := .set ea ep t } ∧ TPre t (ea.toList.map (·.1)) ∧ t.led = ledW w ∧ t.plain = true
theorem SetW.fit {w : World} {h : Heap} {S ep : Nat} {ea : Array (Int × Value)} {t : SetTable} (x : SetW w h S ep ea t) : t.fits ea.size = true := by
  have := x.2.1.fits
  unfold SetTable.fits
  simp only [List.length_map, Array.length_toList] at this
  simp [this.1, this.2]
section
variable {prog : Program} {w : World} {A : Around} {E : Value → Shared → Prop} {s : Shared}
theorem setsByText_ {Q : Bool → Shared → Prop} (h : Q (w.params.followText "set-order") s) : wpAny (model prog w) A setsByText Q E s := by
  unfold setsByText
  exact wpAny_bind (wpAny_askSetting (wpAny_pure h))
theorem pyIter_set {S ep : Nat} {ea : Array (Int × Value)} {t : SetTable} {Q : Value → Shared → Prop} (hS : SetW w s.heap S ep ea t)
    (hQ : Q (.ref s.heap.objs.size) { s with heap := s.heap.push { cls := .type "set_iterator", data := .fields #[.int 0 0, .int 0 0, .ref S, .int ea.size 0, .int ep 0] } }) : wpAny (model prog w) A (pyIter (.ref S)) Q E s := by
  have fit := hS.fit
  obtain ⟨ho, T, hl, hp⟩ := hS
  have hT : s.TypeIs (.ref S) "set" := ⟨_, ho, rfl⟩
  refine wpAny_pyIter_slot hT PySem.F.slot_set_iter (wpAny_call_entry PySem.F.slot_set_iter hT entry_set_iter ?_ (PySem.F.args_set_iter_1 _))
  unfold Builtin.«frozenset.__iter__»
  refine wpAny_bind (wpAny_pure ?_)
  unfold Builtin.Frozenset.sizeOf setEntries
  refine wpAny_bind (wpAny_bind (wpAny_bind (wpAny_setState_of ho rfl fit (wpAny_pure (wpAny_pure ?_)))))
  unfold setDrawn
  refine wpAny_bind (wpAny_bind (wpAny_setState_of ho rfl fit ?_))
  dsimp only
  refine wpAny_bind (setsByText_ ?_)
  refine wpAny_pure ?_
  have hdr : (!w.params.followText "set-order" && (!t.plain && decide (ea.size > 1))) = false := by rw [hp]; simp
  refine wpAny_ite_split (fun hab => absurd (show (!w.params.followText "set-order" && (!t.plain && decide (ea.size > 1))) = true from hab) (by rw [hdr]; exact Bool.false_ne_true)) (fun _ => ?_)
  refine wpAny_bind (wpAny_pure ?_)
  unfold setEpoch
  refine wpAny_bind (wpAny_bind (wpAny_setState_of ho rfl fit (wpAny_pure ?_)))
  unfold newFields
  exact wpAny_bind (wpAny_newObj_type (wpAny_pure ⟨_, rfl, "set_iterator", _, ⟨_, Heap.get?_push_size _ rfl, rfl⟩, slot_seti_next.lookup, hQ⟩))
def SetAtI (w : World) (h : Heap) (I S ep : Nat) (ea : Array (Int × Value)) (t : SetTable) (i : Nat) : Prop :=
  i ≤ ea.size ∧ ∃ slot, IsSetIter h I S slot i ea.size ep ∧ (w.params.followText "set-order" = true ∨ below t.place slot = i)
theorem below_next {xs : Array Nat} (r : Rise xs.toList) {i j : Nat} (h : xs[i]? = some j) : below xs (j + 1) = i + 1 := by
  obtain ⟨h1, h2, h3⟩ := below_spec (j := j + 1) r
  rcases Nat.lt_trichotomy (below xs (j + 1)) (i + 1) with c | c | c
  · have := h2 i j (by omega) h
    omega
  · exact c
  · have hlt : i + 1 < xs.size := by omega
    have e : xs[i + 1]? = some xs[i + 1] := by simp [hlt]
    have g1 := h1 (i + 1) _ c e
    have g2 : j < xs[i + 1] := r.lt (i := i) (j := i + 1) (by omega) (by simpa using h) (by simpa using e)
    omega
theorem below_zero {xs : Array Nat} (r : Rise xs.toList) : below xs 0 = 0 := by
  obtain ⟨h1, h2, h3⟩ := below_spec (j := 0) r
  rcases Nat.eq_zero_or_pos (below xs 0) with c | c
  · exact c
  · have hlt : 0 < xs.size := by omega
    have e : xs[0]? = some xs[0] := by simp [hlt]
    have := h1 0 _ c e
    omega
theorem setNext_item {I S ep : Nat} {ea : Array (Int × Value)} {t : SetTable} {slot i : Nat} {x : Int × Value} {Q : Option (Value × Nat) → Shared → Prop} (hS : SetW w s.heap S ep ea t) (hb : w.params.followText "set-order" = true ∨ below t.place slot = i) (hx : (walkOf w S ep ea)[i]? = some x)
    (h : ∀ next, (w.params.followText "set-order" = true ∨ below t.place next = i + 1) → Q (some (x.2, next)) s) : wpAny (model prog w) A (setNext S slot i ep) Q E s := by
  have fit := hS.fit
  obtain ⟨ho, T, hl, hp⟩ := hS
  unfold setNext
  refine wpAny_bind (wpAny_setState_of ho rfl fit ?_)
  dsimp only
  refine wpAny_bind (setsByText_ ?_)
  by_cases hw : w.params.followText "set-order" = true
  · rw [if_pos hw]
    rw [if_neg (by simp)]
    unfold setWalk
    refine wpAny_bind (wpAny_bind (wpAny_setState_of ho rfl fit ?_))
    dsimp only
    refine wpAny_bind (setsByText_ ?_)
    rw [if_pos hw]
    refine wpAny_bind (wpAny_askSetting (wpAny_pure ?_))
    refine wpAny_pure ?_
    have e : (pickOrder (w.params.setOrder S ep) ea)[i]? = some x := by
      unfold walkOf at hx
      rw [if_pos hw] at hx; exact hx
    show Q (((pickOrder (w.params.setOrder S ep) ea)[i]?).map fun e => (e.2, slot)) s
    rw [e]
    exact h slot (.inl hw)
  · rw [if_neg hw]
    have hb' := hb.resolve_left hw
    have hdr : (!t.plain && decide (ea.size > 1)) = false := by rw [hp]; simp
    refine wpAny_ite_split (fun hab => absurd (show (!t.plain && decide (ea.size > 1)) = true from hab) (by rw [hdr]; exact Bool.false_ne_true)) (fun _ => ?_)
    have hled : t.led = true := by rw [hl]; simp [ledW, hw]
    refine wpAny_bind (wpAny_of_eq (a := ()) ?_ ?_)
    · show (if (!t.led && !ea.isEmpty) = true then (unsupported _ : Sem Unit) else pure ()) = pure ()
      rw [hled]; simp
    · have e : ea[i]? = some x := by
        unfold walkOf at hx
        rw [if_neg hw] at hx; exact hx
      have hlt : i < t.place.size := by
        have := T.size
        simp only [List.length_map, Array.length_toList] at this
        rw [this]; exact (Array.getElem?_eq_some_iff.mp e).1
      have ej : t.place[i]? = some t.place[i] := by simp [hlt]
      refine wpAny_pure ?_
      rw [hb', e, ej]
      exact h _ (.inr (below_next T.rise ej))
theorem setNext_end {I S ep : Nat} {ea : Array (Int × Value)} {t : SetTable} {slot : Nat} {Q : Option (Value × Nat) → Shared → Prop} (hS : SetW w s.heap S ep ea t) (hb : w.params.followText "set-order" = true ∨ below t.place slot = ea.size)
    (h : Q none s) : wpAny (model prog w) A (setNext S slot ea.size ep) Q E s := by
  have fit := hS.fit
  have hwl : (walkOf w S ep ea).size = ea.size := by
    have := (walk_perm w S ep ea).length_eq
    simpa using this
  obtain ⟨ho, T, hl, hp⟩ := hS
  unfold setNext
  refine wpAny_bind (wpAny_setState_of ho rfl fit ?_)
  dsimp only
  refine wpAny_bind (setsByText_ ?_)
  by_cases hw : w.params.followText "set-order" = true
  · rw [if_pos hw]
    rw [if_neg (by simp)]
    unfold setWalk
    refine wpAny_bind (wpAny_bind (wpAny_setState_of ho rfl fit ?_))
    dsimp only
    refine wpAny_bind (setsByText_ ?_)
    rw [if_pos hw]
    refine wpAny_bind (wpAny_askSetting (wpAny_pure ?_))
    refine wpAny_pure ?_
    have e : (pickOrder (w.params.setOrder S ep) ea)[ea.size]? = none := by
      unfold walkOf at hwl
      rw [if_pos hw] at hwl
      exact Array.getElem?_eq_none (by omega)
    show Q (((pickOrder (w.params.setOrder S ep) ea)[ea.size]?).map fun e => (e.2, slot)) s
    rw [e]; exact h
  · rw [if_neg hw]
    have hb' := hb.resolve_left hw
    have hdr : (!t.plain && decide (ea.size > 1)) = false := by rw [hp]; simp
    refine wpAny_ite_split (fun hab => absurd (show (!t.plain && decide (ea.size > 1)) = true from hab) (by rw [hdr]; exact Bool.false_ne_true)) (fun _ => ?_)
    have hled : t.led = true := by rw [hl]; simp [ledW, hw]
    refine wpAny_bind (wpAny_of_eq (a := ()) ?_ ?_)
    · show (if (!t.led && !ea.isEmpty) = true then (unsupported _ : Sem Unit) else pure ()) = pure ()
      rw [hled]; simp
    · refine wpAny_pure ?_
      rw [hb', Array.getElem?_eq_none (Nat.le_refl _)]
      exact h
theorem pyNext_set_item {I S ep : Nat} {ea : Array (Int × Value)} {t : SetTable} {i : Nat} {x : Int × Value} {Q : Option Value → Shared → Prop} (hS : SetW w s.heap S ep ea t) (hI : SetAtI w s.heap I S ep ea t i) (hx : (walkOf w S ep ea)[i]? = some x)
    (hQ : ∀ h', SetAtI w h' I S ep ea t (i + 1) → Heap.SameBut I s.heap h' → Q (some x.2) { s with heap := h' }) : wpAny (model prog w) A (pyNext (.ref I)) Q E s := by
  have fit := hS.fit
  obtain ⟨_, slot, hit, hb⟩ := hI
  obtain ⟨o, ho, hc, hd⟩ := id hit
  have hlt : i < ea.size := by
    have h1 := (Array.getElem?_eq_some_iff.mp hx).1
    have := (walk_perm w S ep ea).length_eq
    simp at this; omega
  unfold pyNext
  refine wpAny_bind (wpAny_attempt (wpAny_callSpecial?_slot (name := Str.ofString "__next__") hit.typeIs slot_seti_next
    (wpAny_call_entry slot_seti_next hit.typeIs entry_seti_next ?_ (args_seti_next _))))
  refine wpAny_bind (wpAny_pure ?_)
  refine wpAny_bind (wpAny_fieldsOf ho hd ?_)
  dsimp only
  unfold setEntries
  refine wpAny_bind (wpAny_bind (wpAny_setState_of hS.1 rfl fit (wpAny_pure ?_)))
  rw [if_neg (by simp)]
  refine wpAny_bind (setNext_item (I := I) hS hb hx fun next hn => ?_)
  dsimp only
  refine wpAny_bind (wpAny_setField ho hd (by simp) ?_)
  have ho1 := Heap.get?_update_self (Obj.mapFields (·.setIfInBounds 0 (rawInt (next : Int)))) ho (Obj.isFreed_of_fields (Obj.data_mapFields hd _))
  have hd1 := Obj.data_mapFields hd (·.setIfInBounds 0 (rawInt (next : Int)))
  refine wpAny_bind (wpAny_setField ho1 hd1 (by simp) ?_)
  have ho2 := Heap.get?_update_self (Obj.mapFields (·.setIfInBounds 1 (rawInt ((i : Int) + 1)))) ho1 (Obj.isFreed_of_fields (Obj.data_mapFields hd1 _))
  have hd2 := Obj.data_mapFields hd1 (·.setIfInBounds 1 (rawInt ((i : Int) + 1)))
  refine wpAny_pure ⟨_, rfl, wpAny_pure (hQ _ ⟨hlt, next, ⟨_, ho2, (Obj.cls_mapFields ..).trans ((Obj.cls_mapFields ..).trans hc), ?_⟩, hn⟩ ((Heap.SameBut.update ..).trans (Heap.SameBut.update ..)))⟩
  rw [hd2]; simp [rawInt]
theorem pyNext_set_end {I S ep : Nat} {ea : Array (Int × Value)} {t : SetTable} {Q : Option Value → Shared → Prop} (hh : A.handled = none) (hS : SetW w s.heap S ep ea t) (hI : SetAtI w s.heap I S ep ea t ea.size)
    (hQ : ∀ h', Heap.ExtBut I s.heap h' → Q none { s with heap := h' }) : wpAny (model prog w) A (pyNext (.ref I)) Q E s := by
  have fit := hS.fit
  obtain ⟨_, slot, hit, hb⟩ := hI
  obtain ⟨o, ho, hc, hd⟩ := id hit
  unfold pyNext
  refine wpAny_bind (wpAny_attempt (wpAny_callSpecial?_slot (name := Str.ofString "__next__") hit.typeIs slot_seti_next
    (wpAny_call_entry slot_seti_next hit.typeIs entry_seti_next ?_ (args_seti_next _))))
  refine wpAny_bind (wpAny_pure ?_)
  refine wpAny_bind (wpAny_fieldsOf ho hd ?_)
  dsimp only
  unfold setEntries
  refine wpAny_bind (wpAny_bind (wpAny_setState_of hS.1 rfl fit (wpAny_pure ?_)))
  rw [if_neg (by simp)]
  refine wpAny_bind (setNext_end (I := I) hS hb ?_)
  dsimp only
  refine wpAny_bind (wpAny_setField ho hd (by simp) ?_)
  show wpAny _ _ (newExc (.type "StopIteration") [] >>= _) _ _ _
  refine wpAny_bind ?_
  simp only [newExc, newTuple]
  refine wpAny_bind (wpAny_newObj_type ?_ (by size_fits))
  refine wpAny_bind (m := firstArgMember _ _) (wpAny_of_eq (a := Value.none) (by first | rfl | (simp only [firstArgMember]; rfl)) ?_)
  refine wpAny_newObj_type ?_ (by size_fits)
  simp only [raiseNew]
  refine wpAny_bind (wpAny_handled ?_)
  rw [show A.in1.handled = none from hh]
  refine wpAny_bind (wpAny_pure (wpAny_throw ?_))
  refine wpAny_bind (wpAny_isInstance (T := "StopIteration") (b := true) ⟨_, Heap.get?_push_size _ rfl, rfl⟩ isSubtype_stop ?_)
  exact wpAny_pure (hQ _ (((Heap.SameBut.update ..).extBut.push _).push _))
theorem hint_set {r : Addr} {Q : Bool → Shared → Prop} (hT : s.TypeIs (.ref r) "set") (h : Q false s) : wpAny (model prog w) A (Builtin.List.listLengthHint (.ref r)) Q E s := by
  unfold Builtin.List.listLengthHint
  refine wpAny_bind (wpAny_specialOf hT slot_set_len'.lookup ?_)
  generalize hid : ("set.__len__" : String) = id0
  wp_delta
  rw [show splitId id0 = some ("set", "__len__") from by subst hid; decide +kernel]
  subst hid
  refine wpAny_bind (wpAny_isInstance (T := "set") (b := true) hT (by rw [isSubtype_type]; kernel_rfl) ?_)
  refine wpAny_ite_split (fun hab => absurd hab (by decide)) (fun _ => ?_)
  refine wpAny_ite_split (fun _ => ?_) (fun hab => absurd (by decide +kernel) hab)
  refine wpAny_bind (wpAny_typeOf hT ?_)
  exact wpAny_pure h
end
end TS
namespace TS
open PySem SetTable PyProof.Rows
abbrev ent (p : Int × Tok) : Int × Value := (hashInt p.1, Value.int p.1 p.2)
section
variable {prog : Program} {w : World} {A : Around} {E : Value → Shared → Prop} {s : Shared}
theorem epoch_at {S : Addr} {o : Obj} {ea : Array (Int × Value)} {ep : Nat} {t : SetTable} {Q : Nat → Shared → Prop} (ho : s.heap.get? S = some o) (hd : o.data = .set ea ep t) (hf : t.fits ea.size = true) (h : Q ep s) : wpAny (model prog w) A (setEpoch S) Q E s := by
  unfold setEpoch
  exact wpAny_bind (wpAny_setState_of ho hd hf (wpAny_pure h))
theorem scan_int {S : Addr} {o : Obj} {ea : Array (Int × Value)} {ep : Nat} {t : SetTable} (ho : s.heap.get? S = some o) (hd : o.data = .set ea ep t) (hf : t.fits ea.size = true) (n : Int) (tk : Tok) {Q : ScanMet → Shared → Prop} :
    ∀ (l : List (Int × Tok)) (i : Nat), (n ∈ l.map (·.1) → ∀ j, Q (.found j) s) → (n ∉ l.map (·.1) → Q .absent s) → wpAny (model prog w) A (setScanFrom S (.int n tk) (hashInt n) true (l.map ent) i) Q E s
  | [], i, _, h2 => wpAny_pure (h2 (by simp))
  | (m, u) :: l, i, h1, h2 => by
    have tail : m ≠ n → wpAny (model prog w) A (setScanFrom S (.int n tk) (hashInt n) true (l.map ent) (i + 1)) Q E s := fun hne =>
      scan_int ho hd hf n tk l (i + 1) (fun h => h1 (List.mem_cons_of_mem _ h)) fun h => h2 fun z => (List.mem_cons.mp z).elim (fun e => hne e.symm) h
    rw [List.map_cons]
    unfold setScanFrom
    by_cases hh : (hashInt m == hashInt n) = true
    · rw [if_pos hh]
      refine wpAny_bind (epoch_at ho hd hf (wpAny_bind (wpAny_eqBool_int ?_)))
      by_cases e : m = n
      · subst e
        simp only [BEq.rfl, Bool.and_self, if_true]
        exact wpAny_pure (h1 List.mem_cons_self i)
      · rw [show (m == n) = false from beq_eq_false_iff_ne.mpr e]
        simp only [Bool.and_false, Bool.false_eq_true, if_false]
        refine wpAny_bind (epoch_at ho hd hf ?_)
        simp only [bne_self_eq_false, Bool.false_eq_true, if_false]
        exact tail e
    · rw [if_neg hh]
      exact tail fun e => hh (by rw [e]; exact BEq.rfl)
theorem free_at {t : SetTable} {hs : List Int} (T : TPre t hs) (h : Int) : ∃ n, t.freeSlot h = some ((path t.mask h n).j, false) ∧ t.slot (path t.mask h n).j = .empty ∧ ∀ m, m < n → t.slot (path t.mask h m).j ≠ .empty := by
  obtain ⟨d, hd, he⟩ := T.empty h
  have hmask : t.mask ≤ 127 := by rcases T.mask with q | q | q <;> omega
  obtain ⟨k, hk, hlive, hr⟩ := probe_go (hashAt := fun _ => h + 1) T.dum d 0 (10 * turns t.mask) (by rw [Nat.zero_add]; exact he) (by unfold turns; omega)
  simp only [Nat.zero_add] at hlive hr
  refine ⟨k, ?_, ?_, fun m hm z => ?_⟩
  · rcases hr with ⟨_, e⟩ | ⟨i, _, e, _⟩
    · unfold freeSlot probe
      rw [start_eq, e]
      rfl
    · omega
  · rcases hr with ⟨e, _⟩ | ⟨i, _, e, _⟩
    · exact e
    · omega
  · obtain ⟨i, e, _⟩ := hlive m hm
    rw [z] at e
    cases e
theorem relaid_of {ea : Array (Int × Value)} {t : SetTable} {es : List (Int × Value)} {wanted : Nat} (hea : ea.toList = es) (hm : okMask (sizeAbove wanted - 1)) (hr : es.length * 5 < (sizeAbove wanted - 1) * 3) :
    ∃ t' order, t.relaid (ea.map (·.1)) wanted = some (t', order) ∧ order.toList.Perm (List.range ea.size) ∧ (order.filterMap (ea[·]?)).toList.Perm es ∧ (order.filterMap (ea[·]?)).size = ea.size ∧ TPre t' ((order.filterMap (ea[·]?)).toList.map (·.1)) ∧ t'.mask = sizeAbove wanted - 1 ∧ t'.led = t.led ∧ t'.plain = t.plain := by
  obtain ⟨t', order, e1, e2, e3, e4, e5, e6⟩ := laid_ok hm (hs := es.map (·.1)) (by rw [List.length_map]; omega) t.finger (t.movedTo (sizeAbove wanted - 1)) t.led t.plain
  have n1 : es.length = ea.size := by rw [← hea]; simp
  rw [List.length_map, n1] at e2
  have er : t.relaid (ea.map (·.1)) wanted = some (t', order) := by
    unfold relaid
    rw [← e1]
    congr 1
    apply Array.toList_inj.mp
    simp [hea]
  have key : ∀ l : List Nat, (∀ k ∈ l, k < ea.size) → (l.filterMap fun k => ea[k]?).length = l.length ∧ (l.filterMap fun k => ea[k]?).map (·.1) = l.map fun k => (es.map (·.1)).getD k 0 := by
    intro l
    induction l with
    | nil => intro _; exact ⟨rfl, rfl⟩
    | cons k r ih =>
      intro hk
      have hk0 : k < ea.size := hk k List.mem_cons_self
      obtain ⟨a, b⟩ := ih fun y hy => hk y (List.mem_cons_of_mem _ hy)
      rw [List.filterMap_cons_some (show ea[k]? = some ea[k] by simp [hk0])]
      refine ⟨by simp [a], ?_⟩
      rw [List.map_cons, List.map_cons, b]
      congr 1
      rw [List.getD_eq_getElem?_getD, List.getElem?_map, ← hea]
      simp [hk0]
  obtain ⟨k1, k2⟩ := key order.toList fun k hk => List.mem_range.mp (e2.mem_iff.mp hk)
  have eo : (order.filterMap (ea[·]?)).toList = order.toList.filterMap fun k => ea[k]? := by simp
  have hlen : order.toList.length = ea.size := by rw [e2.length_eq, List.length_range]
  refine ⟨t', order, er, e2, ?_, ?_, ?_, e4, e5, e6⟩
  · rw [eo, ← hea]
    refine (e2.filterMap fun k => ea[k]?).trans ?_
    rw [filterMap_getElem?_range]
  · rw [← Array.length_toList, eo, k1, hlen]
  · rw [eo, k2]; exact e3
theorem add_int {S : Addr} {led : Bool} {ns : List (Int × Tok)} {n : Int} {tk : Tok} {Q : Bool → Shared → Prop} (hS : SetS s.heap S led (ns.map ent)) (hn : ns.length ≤ 70)
    (h : ∀ (b : Bool) (h' : Heap) (t : Nat) (ns' : List (Int × Tok)), SetS h' S led (ns'.map ent) → (ns' = ns ∧ n ∈ ns.map (·.1) ∨ (n ∉ ns.map (·.1) ∧ ns'.Perm ((n, tk) :: ns))) → Heap.SameBut S s.heap h' → s.toks ≤ t → Q b { s with heap := h', toks := t }) :
    wpAny (model prog w) A (setAdd S (.int n tk)) Q E s := by
  obtain ⟨ea, ep, t, ho, hea, T, hr, hl, hp⟩ := id hS
  have n1 : ns.length = ea.size := by have := congrArg List.length hea; simpa using this.symm
  rw [List.length_map] at hr
  have hfit : t.fits ea.size = true := by
    have := T.fits
    unfold SetTable.fits
    rw [List.length_map, List.length_map, n1] at this
    simp [this.1, this.2]
  unfold setAdd
  refine wpAny_holding (wpAny_bind (wpAny_pyHash_int ?_))
  unfold setAddHashed setAddHashedIn
  refine wpAny_holding (wpAny_bind (wpAny_setState_of (s := { s with toks := s.toks + 1 }) ho rfl hfit ?_))
  have hmask : t.mask ≤ 127 := by rcases T.mask with q | q | q <;> omega
  have hbs : byScan (.int n tk) ea = true := by
    unfold byScan
    have h1 : ea.size < scanBound := Nat.lt_of_le_of_lt (n1 ▸ hn) (by decide)
    have h2 : ea.all (fun e => e.2.scannable) = true := by
      rw [← Array.all_toList, hea, List.all_map]
      simp [Value.scannable, Function.comp]
    show (true && decide (ea.size < scanBound) && ea.all _) = true
    rw [h2, decide_eq_true h1]
    rfl
  dsimp only
  rw [if_pos hbs]
  unfold setAddByScan
  refine wpAny_bind (wpAny_bind (wpAny_rule (wpAny_bind ?_)))
  show wpAny _ _ (setScanFrom S (.int n tk) (hashInt n) true ea.toList 0) _ _ _
  rw [hea]
  refine scan_int (s := { s with toks := s.toks + 1 }) ho rfl hfit n tk ns 0 (fun hm j => ?_) fun hm => ?_
  · exact wpAny_pure (wpAny_pure (h false s.heap _ ns hS (.inl ⟨rfl, hm⟩) (Heap.SameBut.refl ..) (Nat.le_succ _)))
  · dsimp only
    obtain ⟨k, f1, f2, f3⟩ := free_at T (hashInt n)
    have few : ns.length + 1 ≤ t.mask := by rcases T.mask with q | q | q <;> omega
    have T2 : TPre (t.put (path t.mask (hashInt n) k).j).1 (((insL ns (t.put (path t.mask (hashInt n) k).j).2 (n, tk)).map ent).map (·.1)) := by
      rw [insL_map, insL_map]
      exact put_ok T f2 f3 (by rw [List.length_map, List.length_map]; exact few)
    have el : (insertAt ea (t.put (path t.mask (hashInt n) k).j).2 (hashInt n, Value.int n tk)).toList = (insL ns (t.put (path t.mask (hashInt n) k).j).2 (n, tk)).map ent := by rw [insertAt_toList, hea, insL_map]
    have hsz : (insertAt ea (t.put (path t.mask (hashInt n) k).j).2 (hashInt n, Value.int n tk)).size = ns.length + 1 := by rw [← Array.length_toList, el, List.length_map, insL_length]
    have hfit2 : (t.put (path t.mask (hashInt n) k).j).1.fits (ns.length + 1) = true := by
      have := T2.fits
      unfold SetTable.fits
      rw [List.length_map, List.length_map, insL_length] at this
      simp [this.1, this.2]
    have hlay : layNew t ea (hashInt n) (Value.int n tk) = (insertAt ea (t.put (path t.mask (hashInt n) k).j).2 (hashInt n, Value.int n tk), (t.put (path t.mask (hashInt n) k).j).1, false, false) := by
      unfold layNew
      rw [f1]
      dsimp only
      rw [hsz, hfit2]
      unfold orStandIn
      rw [hfit2]
      rfl
    rw [hlay]
    dsimp only
    have hpl : (t.put (path t.mask (hashInt n) k).j).1.plain = true := hp
    have hmm : (t.put (path t.mask (hashInt n) k).j).1.mask = t.mask := rfl
    have hfill : (t.put (path t.mask (hashInt n) k).j).1.fill = ns.length + 1 := by
      unfold SetTable.fill
      rw [T2.dum, T2.size, List.length_map, List.length_map, insL_length]
      simp
    refine wpAny_bind (wpAny_pure (a := ()) ?_)
    rw [hpl]
    refine wpAny_bind (m := hashByValue 8 (Value.int n tk)) (wpAny_pure ?_)
    simp only [if_true]
    refine wpAny_bind (wpAny_storeSet_of (s := { s with toks := s.toks + 1 }) ho rfl ?_ (by rw [hsz]; exact Nat.le_trans (Nat.le_trans few hmask) (by decide)))
    have hget : (s.heap.update S (Obj.putSet (insertAt ea (t.put (path t.mask (hashInt n) k).j).2 (hashInt n, Value.int n tk)) (t.put (path t.mask (hashInt n) k).j).1)).get? S = some { cls := .type "set", dict := none, data := .set (insertAt ea (t.put (path t.mask (hashInt n) k).j).2 (hashInt n, Value.int n tk)) (ep + 1) (t.put (path t.mask (hashInt n) k).j).1 } := by
      rw [Heap.get?_update_self _ ho rfl]; rfl
    by_cases full : (t.put (path t.mask (hashInt n) k).j).1.tooFull = true
    · rw [full]
      simp only [Bool.not_false, Bool.and_self, if_true]
      have full' : t.mask * 3 ≤ (ns.length + 1) * 5 := by
        unfold tooFull at full
        rw [hfill, hmm] at full
        simpa using full
      rw [hsz]
      have hg : grown (ns.length + 1) = (ns.length + 1) * 4 := by
        unfold grown
        rw [if_neg (by omega)]
      have hw : okMask (sizeAbove (grown (ns.length + 1)) - 1) ∧ (ns.length + 1) * 5 < (sizeAbove (grown (ns.length + 1)) - 1) * 3 := by
        rw [hg]
        rcases T.mask with q | q | q
        · have : ns.length = 4 := by omega
          rw [this]
          exact ⟨.inr (.inl (by decide)), by decide⟩
        · have : ns.length = 18 := by omega
          rw [this]
          exact ⟨.inr (.inr (by decide)), by decide⟩
        · omega
      obtain ⟨t', order, r1, r2, r3, r4, r5, r6, r7, r8⟩ := relaid_of (t := (t.put (path t.mask (hashInt n) k).j).1) el hw.1 (by rw [List.length_map, insL_length]; exact hw.2)
      obtain ⟨ns', e', p'⟩ := perm_map_inv r3
      have hfit3 : t'.fits (ns.length + 1) = true := by
        have := r5.fits
        unfold SetTable.fits
        rw [List.length_map, Array.length_toList, r4, hsz] at this
        simp [this.1, this.2]
      have hrel : relayAll (t.put (path t.mask (hashInt n) k).j).1 (insertAt ea (t.put (path t.mask (hashInt n) k).j).2 (hashInt n, Value.int n tk)) (grown (ns.length + 1)) = (order.filterMap ((insertAt ea (t.put (path t.mask (hashInt n) k).j).2 (hashInt n, Value.int n tk))[·]?), t', false) := by
        unfold relayAll
        rw [r1]
        dsimp only
        have hc : coversAll order (insertAt ea (t.put (path t.mask (hashInt n) k).j).2 (hashInt n, Value.int n tk)).size = true := by
          unfold coversAll
          exact List.isPerm_iff.mpr r2
        rw [hc, r4, hsz, hfit3]
        rfl
      rw [hrel]
      dsimp only
      refine wpAny_bind (wpAny_pure (a := ()) ?_)
      refine wpAny_bind (wpAny_storeSet_of (s := { s with heap := s.heap.update S (Obj.putSet (insertAt ea (t.put (path t.mask (hashInt n) k).j).2 (hashInt n, Value.int n tk)) (t.put (path t.mask (hashInt n) k).j).1), toks := s.toks + 1 }) hget rfl ?_ (by rw [r4, hsz]; exact Nat.le_trans (Nat.le_trans few hmask) (by decide)))
      refine wpAny_pure (wpAny_pure (h true _ _ ns' ⟨_, ep + 2, t', ?_, e', by rw [← e']; exact r5, ?_, r7.trans hl, r8.trans hpl⟩ (.inr ⟨hm, p'.trans (insL_perm _ _ _)⟩) ((Heap.SameBut.update _ _ _).trans (Heap.SameBut.update _ _ _)) (Nat.le_succ _)))
      · rw [Heap.get?_update_self _ hget rfl]; rfl
      · rw [List.length_map, p'.length_eq, insL_length, r6]; exact hw.2
    · have full0 : (t.put (path t.mask (hashInt n) k).j).1.tooFull = false := by simpa using full
      rw [full0]
      simp only [Bool.not_false, Bool.and_false, Bool.false_eq_true, if_false]
      have full' : (ns.length + 1) * 5 < t.mask * 3 := by
        unfold tooFull at full
        rw [hfill, hmm] at full
        simpa using full
      refine wpAny_pure (wpAny_pure (h true _ _ (insL ns (t.put (path t.mask (hashInt n) k).j).2 (n, tk)) ⟨_, _, _, hget, el, T2, ?_, hl, hp⟩ (.inr ⟨hm, insL_perm _ _ _⟩) (Heap.SameBut.update _ _ _) (Nat.le_succ _)))
      rw [List.length_map, insL_length, hmm]; exact full'
end
end TS
namespace TS
open PySem PySem.W PyProof.Rows PySem.Calls
def All {α : Type} (n : Nat) (R : α → Prop) : KasT α → Prop
  | .ret a => R a
  | .ask i j k => (i < n ∧ j < n) ∧ ∀ b, All n R (k b)
theorem All.bind {α β : Type} {n : Nat} {R : α → Prop} {R' : β → Prop} {f : α → KasT β} : ∀ {t : KasT α}, All n R t → (∀ a, R a → All n R' (f a)) → All n R' (t.bind f)
  | .ret a, h, k => k a h
  | .ask i j g, h, k => ⟨h.1, fun b => All.bind (t := g b) (h.2 b) k⟩
theorem All.mono {α : Type} {n : Nat} {R R' : α → Prop} (m : ∀ a, R a → R' a) : ∀ {t : KasT α}, All n R t → All n R' t
  | .ret a, h => m a h
  | .ask i j g, h => ⟨h.1, fun b => All.mono m (h.2 b)⟩
theorem All.wp {α : Type} {n : Nat} {R : α → Prop} {cmp : Nat → Nat → (Bool → Shared → Prop) → Shared → Prop} {s : Shared} (hc : ∀ i j (C : Bool → Shared → Prop), i < n → j < n → (∀ b, C b s) → cmp i j C s) {Q : α → Shared → Prop} (hQ : ∀ a, R a → Q a s) :
    ∀ {t : KasT α}, All n R t → t.kasWp cmp Q s
  | .ret a, h => hQ a h
  | .ask i j g, h => hc i j _ h.1.1 h.1.2 fun b => All.wp hc hQ (h.2 b)
abbrev PermN (n : Nat) (p : Array Nat) : Prop := p.toList.Perm (List.range n)
theorem PermN.lt {n : Nat} {p : Array Nat} (h : PermN n p) (hn : 0 < n) (i : Nat) : p.getD i 0 < n := by
  by_cases hi : i < p.size
  · have e : p.getD i 0 = p[i] := by simp [Array.getD, hi]
    rw [e]
    have : p[i] ∈ p.toList := by simp
    exact List.mem_range.mp (h.mem_iff.mp this)
  · have e : p.getD i 0 = 0 := by simp [Array.getD, hi]
    rw [e]; exact hn
theorem PermN.rev {n : Nat} {p : Array Nat} (h : PermN n p) (i j : Nat) : PermN n (kas_rev p i j) := by
  have := (mirror_perm p i j ((j - i) / 2))
  exact (Array.perm_iff_toList_perm.mp this).trans h
theorem PermN.bub {n : Nat} {p : Array Nat} (h : PermN n p) (i j : Nat) : PermN n (bubble p i j) :=
  (Array.perm_iff_toList_perm.mp (bubble_perm p i j)).trans h
variable {n : Nat} (hn : 0 < n)
include hn
theorem all_asc {p : Array Nat} (h : PermN n p) : ∀ f m, All n (fun _ => True) (kas_asc p f m)
  | 0, _ => trivial
  | f + 1, m => ⟨⟨h.lt hn _, h.lt hn _⟩, fun b => by
    cases b
    · exact all_asc h f (m + 1)
    · exact trivial⟩
theorem all_desc : ∀ f (p : Array Nat) m q, PermN n p → All n (fun r => PermN n r.1) (kas_desc f p m q)
  | 0, p, _, _, h => h
  | f + 1, p, m, q, h => ⟨⟨h.lt hn _, h.lt hn _⟩, fun b => by
    cases b
    · refine ⟨⟨h.lt hn _, h.lt hn _⟩, fun c => ?_⟩
      cases c
      · exact all_desc f p (m + 1) (q + 1) h
      · exact h
    · simp only [if_true]
      split
      · exact all_desc f _ _ _ (h.rev _ _)
      · exact all_desc f _ _ _ h⟩
theorem all_tail3 {p : Array Nat} (h : PermN n p) (a b : Nat) : All n (fun r => PermN n r.2) (kas_tail3 a b p) :=
  All.bind (all_asc hn (h.rev 0 a) _ _) fun _ _ => h.rev 0 a
theorem all_descPart {p : Array Nat} (h : PermN n p) (a b : Nat) : All n (fun r => PermN n r.2) (kas_descPart a b p) := by
  refine All.bind (all_desc hn _ p _ _ h) fun r hr => ?_
  split
  · exact all_tail3 hn (hr.rev _ _) _ _
  · exact all_tail3 hn hr _ _
theorem all_count {p : Array Nat} (h : PermN n p) (b : Nat) : All n (fun r => PermN n r.2) (kas_count b p) := by
  refine All.bind (all_asc hn h _ _) fun m _ => ?_
  split
  · exact h
  · split
    · refine ⟨⟨h.lt hn _, h.lt hn _⟩, fun c => ?_⟩
      cases c
      · exact all_descPart hn (h.rev _ _) _ _
      · exact h
    · exact all_descPart hn h _ _
theorem all_place {p : Array Nat} (h : PermN n p) (k : Nat) : ∀ f l r, All n (fun _ => True) (kas_place p k f l r)
  | 0, _, _ => trivial
  | f + 1, l, r => by
    unfold kas_place
    split
    · exact trivial
    · refine ⟨⟨h.lt hn _, h.lt hn _⟩, fun c => ?_⟩
      cases c
      · exact all_place h k f _ _
      · exact all_place h k f _ _
theorem all_bin : ∀ f (p : Array Nat) k, PermN n p → All n (PermN n) (kas_bin f p k)
  | 0, _, _, h => h
  | f + 1, p, k, h => All.bind (all_place hn h k _ _ _) fun l _ => all_bin f _ _ (h.bub _ _)
theorem all_sort : All n (PermN n) (kas_sort n) := by
  refine All.bind (all_count hn (show PermN n (List.toArray (List.range n)) from .rfl) _) fun r hr => ?_
  split
  · exact all_bin hn _ _ _ hr
  · exact hr
omit hn
end TS
namespace TS
open PySem PySem.W PyProof.Rows PySem.Calls SetTable
section
variable {prog : Program} {w : World} {A : Around} {E : Value → Shared → Prop} {s : Shared}
theorem lex_any {b fin : Bool} {Q : Bool → Shared → Prop} (h : ∀ c, Q c s) : ∀ (l : List (Value × Value)) (i : Nat), (∀ p ∈ l, (∃ a t, p.1 = Value.int a t) ∧ ∃ a t, p.2 = Value.int a t) → KatLex prog w A b fin Q l i s
  | [], _, _ => kat_nil (h _)
  | (p, q) :: r, i, hl => by
    obtain ⟨⟨a, t, rfl⟩, ⟨c, u, rfl⟩⟩ := hl (p, q) List.mem_cons_self
    refine kat_cons (wpAny_eqBool_int (kat_go (fun _ => kat_yes (lex_any h r (i + 1) fun x hx => hl x (List.mem_cons_of_mem _ hx))) fun _ => kat_no ?_))
    cases hb : (b && i == 0) with
    | true => exact oneLt_int (h _)
    | false => exact kat_one _ _ (PyProof.Rows.lt_int (show PySem.W.BoolBack Q (.bool _) s from h _))
theorem lt_any {b : Bool} {x y : Addr} {ks ms : List Int} {Q : Bool → Shared → Prop} (hx : IsTupleKey (intKind prog w) s.heap ks x) (hy : IsTupleKey (intKind prog w) s.heap ms y) (h : ∀ c, Q c s) : wpAny (model prog w) A (keyLt' (tuples' b) (.ref x) (.ref y)) Q E s := by
  obtain ⟨ox, xs, n, hox, _, hdx, hix⟩ := hx
  obtain ⟨oy, ys, m, hoy, _, hdy, hiy⟩ := hy
  refine kat_lt hox hdx hoy hdy (lex_any h _ _ fun p hp => ?_)
  obtain ⟨h1, h2⟩ := List.of_mem_zip hp
  exact ⟨items_int hix _ h1, items_int hiy _ h2⟩
def TupsAt (prog : Program) (w : World) (h : Heap) (ps : List (List Int × Addr)) : Prop := ∀ p ∈ ps, p.1 ≠ [] ∧ IsTupleKey (intKind prog w) h p.1 p.2
theorem TupsAt.keep {h h' : Heap} {ps : List (List Int × Addr)} (x : TupsAt prog w h ps) (k : ∀ p ∈ ps, ∀ o, h.get? p.2 = some o → h'.get? p.2 = some o) : TupsAt prog w h' ps := fun p hp => ⟨(x p hp).1, IsTupleKey.same (x p hp).2 (k p hp)⟩
theorem kat_tups {h : Heap} : ∀ (ps : List (List Int × Addr)), TupsAt prog w h ps → ∃ fs, KatTups h (ps.map fun p => Value.ref p.2) fs ∧ fs.length = ps.length ∧ ∀ v ∈ fs, ∃ n t, v = Value.int n t
  | [], _ => ⟨[], KatTups.nil, rfl, (fun _ z => nomatch z)⟩
  | p :: r, hp => by
    obtain ⟨fs, h1, h2, h3⟩ := kat_tups r fun q hq => hp q (List.mem_cons_of_mem _ hq)
    obtain ⟨hne, o, items, n, ho, hc, hd, hi⟩ := hp p List.mem_cons_self
    obtain ⟨v, vs, e⟩ : ∃ v vs, items.toList = v :: vs := by
      cases e : items.toList with
      | nil =>
        rw [e] at hi
        have := hi.length
        simp at this
        exact absurd this hne
      | cons v vs => exact ⟨v, vs, rfl⟩
    have hv : items[0]? = some v := by
      have : items.toList[0]? = some v := by rw [e]; rfl
      simpa using this
    obtain ⟨n', t', rfl⟩ := items_int hi v (by rw [e]; exact List.mem_cons_self)
    refine ⟨_ :: fs, KatTups.cons ho hc hd hv h1, by simp [h2], fun u hu => ?_⟩
    rcases List.mem_cons.mp hu with rfl | hu
    · exact ⟨n', t', rfl⟩
    · exact h3 u hu
theorem perm_getD {vs : List Value} {p : Array Nat} (h : PermN vs.length p) : (p.toList.map fun i => vs.getD i Value.none).Perm vs := by
  have e : (List.range vs.length).map (fun i => vs.getD i Value.none) = vs := by
    apply List.ext_getElem
    · simp
    · intro i h1 h2
      simp [h2]
  refine (h.map _).trans ?_
  rw [e]
theorem list_sort_tups {a : Addr} {ps : List (List Int × Addr)} {n : Nat} {P : PySem.Fin → Shared → Prop} (ho : s.heap.get? a = some (seqObj "list" (ps.map fun p => Value.ref p.2).toArray n)) (ht : TupsAt prog w s.heap ps) (h64 : ps.length < 64)
    (h : ∀ out : List (List Int × Addr), out.Perm ps → P (.done (.ret .none)) { s with heap := sortedHeap s.heap a (ps.map fun p => Value.ref p.2) (out.map fun p => Value.ref p.2).toArray }) :
    wpAny (model prog w) A (Builtin.«list.sort» ⟨[.ref a], []⟩) P E s := by
  generalize hvs : ps.map (fun p => Value.ref p.2) = vs at ho h
  have hlen : vs.length = ps.length := by rw [← hvs]; simp
  have fin : ∀ out : List Value, out.Perm vs → P (.done (.ret .none)) { s with heap := sortedHeap s.heap a vs out.toArray } := fun out hp => by
    rw [← hvs] at hp
    obtain ⟨m, rfl, pm⟩ := perm_map_inv hp
    exact h m pm
  rw [list_sort_plain]
  have ha : a < s.heap.objs.size := Heap.lt_size ho
  refine wpAny_bind (listItems_at ho rfl ?_)
  refine wpAny_bind (listUpdate_at ho rfl ?_)
  obtain ⟨e1, ho1⟩ : ∃ e1, (s.heap.update a (Obj.mapSeq fun _ => #[])).get? a = some (seqObj "list" #[] e1) := ⟨_, get?_update_seq ho (fun _ => #[])⟩
  refine wpAny_bind (seqEpoch_at ho1 rfl ?_)
  refine wpAny_bind (wpAny_newTuple ?_)
  refine wpAny_bind (wpAny_newList ?_)
  refine wpAny_holding ?_
  have ho6 : (((s.heap.update a (Obj.mapSeq fun _ => #[])).push (seqObj "tuple" vs.toArray 0)).push (seqObj "list" #[] 0)).get? a = some (seqObj "list" #[] e1) := by
    rw [Heap.get?_push_ne _ _ _ (by rw [size_push', Heap.size_update]; exact Nat.ne_of_lt (Nat.lt_succ_of_lt ha)), Heap.get?_push_ne _ _ _ (by rw [Heap.size_update]; exact Nat.ne_of_lt ha)]
    exact ho1
  show wpAny (model prog w) A _ P E { s with heap := ((s.heap.update a (Obj.mapSeq fun _ => #[])).push (seqObj "tuple" vs.toArray 0)).push (seqObj "list" #[] 0) }
  dsimp only
  have hsz : vs.toArray.size = vs.length := by simp
  have ht6 : TupsAt prog w (((s.heap.update a (Obj.mapSeq fun _ => #[])).push (seqObj "tuple" vs.toArray 0)).push (seqObj "list" #[] 0)) ps := ht.keep fun p hp o e => by
    have hne : p.2 ≠ a := fun z => by
      obtain ⟨_, o', _, _, ho', hc', _⟩ := ht p hp
      rw [z, ho] at ho'
      cases ho'
      injection hc' with q
      exact absurd q (by decide)
    exact Heap.get?_push_of_some _ (Heap.get?_push_of_some _ ((Heap.get?_update_other _ _ (Ne.symm hne)).trans e))
  by_cases h2 : vs.toArray.size < 2
  · rw [if_pos h2, if_pos h2]
    refine wpAny_bind (wpAny_pure ?_)
    rw [StateT.run_pure]
    refine wpAny_bind (wpAny_pure ?_)
    dsimp only
    have e5 : ((arrOf (SortSt.mk' general' (vs.toArray.zip vs.toArray) #[] 7 none)).map (·.2)) = vs.toArray := by
      show (vs.toArray.zip vs.toArray).map (·.2) = vs.toArray
      apply Array.toList_inj.mp
      simp [List.map_snd_zip]
    rw [show ((arrOf (SortSt.mk' general' (vs.toArray.zip vs.toArray) #[] 7 none)).map fun x => x.2) = vs.toArray from e5]
    refine wpAny_bind (seqEpoch_at ho6 rfl ?_)
    refine wpAny_bind (listUpdate_at ho6 rfl ?_ (hsz2 := by rw [hsz, sizeLine_eq]; omega))
    simp only [bne_self_eq_false, Bool.false_eq_true, if_false]
    exact wpAny_pure (fin vs .rfl)
  · rw [if_neg h2, if_neg h2]
    have h2' : 2 ≤ vs.length := by omega
    obtain ⟨fs, k1, k2, k3⟩ := kat_tups ps ht6
    rw [hvs] at k1
    refine wpAny_bind (kat_kind k1 (by omega) (T := .type "int") (fun v hv => ?_) (by decide) ?_)
    · obtain ⟨n', t', rfl⟩ := k3 v hv
      exact Looks.of_pure rfl
    · refine wpAny_bind (kat_run (Q := fun st' s' => s' = { s with heap := ((s.heap.update a (Obj.mapSeq fun _ => #[])).push (seqObj "tuple" vs.toArray 0)).push (seqObj "list" #[] 0) } ∧ failedOf st' = none ∧ ∃ p : Array Nat, PermN vs.length p ∧ (arrOf st').map (·.2) = List.toArray (p.toList.map fun i => vs.getD i Value.none))
        (G := fun p s' => PermN vs.length p ∧ s' = { s with heap := ((s.heap.update a (Obj.mapSeq fun _ => #[])).push (seqObj "tuple" vs.toArray 0)).push (seqObj "list" #[] 0) }) (ks := vs) (vs := vs) rfl h2' (by omega) (fun p st' s' hp har hf ⟨hG, e⟩ => ⟨e, hf, p, hG, kat_snds rfl har⟩)
        (All.wp (fun i j C hi hj hC => ?_) (fun p hp => ⟨hp, rfl⟩) (all_sort (n := vs.length) (by omega)))|> fun z => wpAny_mono z ?_ fun _ _ e => e)
      · rintro ⟨⟨⟩, st'⟩ s' ⟨rfl, hf, p, hp, har⟩
        dsimp only at hf har ⊢
        have hpl : (p.toList.map fun i => vs.getD i Value.none).length = vs.length := (perm_getD hp).length_eq
        rw [show ((arrOf st').map fun x => x.2) = List.toArray (p.toList.map fun i => vs.getD i Value.none) from har]
        refine wpAny_bind (seqEpoch_at ho6 rfl ?_)
        refine wpAny_bind (listUpdate_at ho6 rfl ?_ (hsz2 := by rw [List.size_toArray, hpl, sizeLine_eq]; omega))
        rw [hf]
        simp only [bne_self_eq_false, Bool.false_eq_true, if_false]
        exact wpAny_pure (fin _ (perm_getD hp))
      · unfold kas_ask
        have gi : ∀ i, i < vs.length → ∃ p, p ∈ ps ∧ vs.getD i Value.none = .ref p.2 := fun i hi => by
          have e : vs.getD i Value.none = vs[i] := by simp [List.getD, hi]
          rw [e]
          have hm : vs[i] ∈ ps.map fun p => Value.ref p.2 := by rw [hvs]; exact List.getElem_mem _
          obtain ⟨p, hp, q⟩ := List.mem_map.mp hm
          exact ⟨p, hp, q.symm⟩
        obtain ⟨p, hp, q1⟩ := gi i hi
        obtain ⟨p', hp', q2⟩ := gi j hj
        rw [q1, q2]
        exact lt_any (ht6 p hp).2 (ht6 p' hp').2 hC
end
end TS
namespace TS
open PySem PySem.W PyProof.Rows PySem.Calls SetTable
theorem slot_seti_iter : Slot "set_iterator" "__iter__" "set_iterator.__iter__" :=
  .of (owner := "set_iterator") (n := "__iter__") (by rw [typeLookup_type, builtinLookup_eq_fast]; kernel_rfl) (by decide +kernel) (by decide +kernel) (by decide +kernel)
    (by first | exact .inl (by decide +kernel) | exact .inr (by decide +kernel)) (by rw [isSubtype_type]; kernel_rfl)
theorem args_seti_iter (a : Value) : argsOk "set_iterator.__iter__" ⟨[a], []⟩ := by
  unfold argsOk; rw [signature?_of (id := "set_iterator.__iter__") (n := ['_', '_', 'r', 'e', 't', 'i', '_', '_']) (o := ['r', 'o', 't', 'a', 'r', 'e', 't', 'i', '_', 't', 'e', 's']) (by kernel_rfl) owner_seti]; kernel_rfl
theorem entry_seti_iter : entryFor table "set_iterator.__iter__" = some Builtin.«dict_keyiterator.__iter__» :=
  entryFor_alias (id' := "dict_keyiterator.__iter__") (by kernel_rfl) rfl (by decide +kernel) (by kernel_rfl)
section
variable {prog : Program} {w : World} {A : Around} {E : Value → Shared → Prop} {s : Shared}
def Pw (w : World) (S ep : Nat) (ea : Array (Int × Value)) : Nat → Value → Prop := fun i v => ∃ x, (walkOf w S ep ea)[i]? = some x ∧ v = x.2
theorem walks_set (hh : A.handled = none) (I S ep : Nat) (hne : S ≠ I) (ea : Array (Int × Value)) (t : SetTable) :
    Walks prog w A I [I, S] [I] ea.size (Pw w S ep ea) (fun i h => SetW w h S ep ea t ∧ SetAtI w h I S ep ea t i) where
  sub := fun b hb => by simp at hb; simp [hb]
  frame := fun i h h' st hk => by
    obtain ⟨⟨a1, a2⟩, b1, slot, ⟨o, b2, b3⟩, b4⟩ := st
    exact ⟨⟨hk S (by simp) _ a1, a2⟩, b1, slot, ⟨o, hk I (by simp) _ b2, b3⟩, b4⟩
  item := fun i s Q E hi st hQ => by
    have hw : (walkOf w S ep ea).size = ea.size := by
      have := (walk_perm w S ep ea).length_eq
      simpa using this
    have hx : (walkOf w S ep ea)[i]? = some (walkOf w S ep ea)[i] := by simp [hw, hi]
    refine pyNext_set_item st.1 st.2 hx fun h' hit' hs' => ?_
    exact hQ _ h' s.toks ⟨_, hx, rfl⟩ ⟨⟨(hs'.2 S hne).trans st.1.1, st.1.2⟩, hit'⟩ fun b o hb e => hs'.extBut b o (fun h => hb (by simp [h])) e
  done := fun s Q E st hQ => pyNext_set_end hh st.1 st.2 fun h' he' => hQ h' s.toks fun b o hb e => he' b o (fun h => hb (by simp [h])) e
  self := fun i s Q E st hQ => by
    obtain ⟨_, _, slot, hit, _⟩ := st
    refine wpAny_pyIter_slot hit.typeIs slot_seti_iter (wpAny_call_entry slot_seti_iter hit.typeIs entry_seti_iter ?_ (args_seti_iter _))
    show wpAny _ _ (ret (.ref I)) _ _ s
    exact wpAny_pure ⟨_, rfl, "set_iterator", _, hit.typeIs, slot_seti_next.lookup, hQ⟩
theorem src_set (S ep : Nat) (ea : Array (Int × Value)) (t : SetTable) : KdlSrc prog w "set" S S ea.size (Pw w S ep ea) (fun h => SetW w h S ep ea t) where
  type := fun s h => ⟨_, h.1, rfl⟩
  there := fun h x => ⟨Heap.lt_size x.1, Heap.lt_size x.1⟩
  keep := fun h h' x k => ⟨k S (.inl rfl) _ x.1, x.2⟩
  notList := by decide
  notTuple := by decide
  hint := fun A E s Q h q => hint_set ⟨_, h.1, rfl⟩ q
  iter := fun A s hh h => by
    refine ⟨{ cls := .type "set_iterator", data := .fields #[.int 0 0, .int 0 0, .ref S, .int ea.size 0, .int ep 0] }, _, fun E Q hQ => pyIter_set h hQ, walks_set hh s.heap.objs.size S ep (Nat.ne_of_lt (Heap.lt_size h.1)) ea t, ⟨Heap.get?_push_of_some _ h.1, h.2⟩, Nat.zero_le _, 0, ⟨_, Heap.get?_push_size _ rfl, rfl, rfl⟩, .inr (below_zero h.2.1.rise)⟩
theorem collect_set {S ep : Nat} {ea : Array (Int × Value)} {t : SetTable} {Q : List Value → Shared → Prop} (hh : A.handled = none) (hS : SetW w s.heap S ep ea t) (hn : ea.size ≤ sizeLine)
    (h : ∀ h' tk vs, (∀ b o, s.heap.get? b = some o → h'.get? b = some o) → s.heap.objs.size < h'.objs.size → vs.Perm (ea.toList.map (·.2)) → Q vs { s with heap := h', toks := tk }) : wpAny (model prog w) A (collect (.ref S)) Q E s := by
  have hlt : S < s.heap.objs.size := Heap.lt_size hS.1
  unfold collect
  refine wpAny_bind (wpAny_runValue (codeAny_builtin PySem.F.entry_proto_collect ?_))
  rw [Around.under_plainId PySem.F.plain_proto_collect _]
  show wpAny _ A.in1 (newList [] >>= fun l => again (.builtin "list.__iadd__" ⟨[l, .ref S], []⟩)) _ _ s
  refine wpAny_bind (wpAny_newObj_type ?_)
  refine wpAny_pure ⟨plainId_quiet PySem.F.plain_list_iadd _, codeAny_builtin PySem.F.entry_list_iadd ?_⟩
  rw [Around.under_plainId PySem.F.plain_list_iadd _]
  show wpAny _ A.in1 (Builtin.List.listExtendWith (.ref s.heap.objs.size) (.ref S) (.ref s.heap.objs.size)) _ _ _
  have hget : (s.heap.push { cls := .type "list", dict := none, data := .seq ([] : List Value).toArray }).get? s.heap.objs.size = some { cls := .type "list", data := .seq #[] 0 } := Heap.get?_push_size _ rfl
  refine kdl_extend (R := fun r s' => match r with
      | Except.ok (Flow.ret v) => wpAny (model prog w) A (match v with
          | Value.ref a => do
            let o ← load a
            match o.data with
              | Data.seq xs epoch => pure xs.toList
              | x => unsupported "internal:collect"
          | x => unsupported "internal:collect") Q E s'
      | Except.ok a => False
      | Except.error e => E e s') (A := A) (s := { s with heap := s.heap.push { cls := .type "list", dict := none, data := .seq ([] : List Value).toArray } }) (src_set S ep ea t) hh ⟨Heap.get?_push_of_some _ hS.1, hS.2⟩ s.heap.objs.size (Nat.ne_of_gt hlt) (Nat.ne_of_gt hlt) _ 0 hget (fun h' tk acc' c' hk hS' hacc => ?_) hn
  show wpAny _ A (load s.heap.objs.size >>= _) _ _ _
  refine wpAny_bind (wpAny_load hS' ?_)
  refine wpAny_pure (h h' tk acc'.toList (fun b o e => hk b o (Nat.ne_of_lt (Heap.lt_size e)) (Heap.get?_push_of_some _ e)) (Heap.lt_size hS') ?_)
  have e : acc'.toList = (walkOf w S ep ea).toList.map (·.2) := by
    have hw : (walkOf w S ep ea).size = ea.size := by
      have := (walk_perm w S ep ea).length_eq
      simpa using this
    apply List.ext_getElem?
    intro i
    by_cases hi : i < acc'.size
    · obtain ⟨x, hx, ex⟩ := hacc.2 i acc'[i] (by simp [hi])
      rw [List.getElem?_map]
      have h1 : acc'.toList[i]? = some acc'[i] := by simp [hi]
      have h2 : (walkOf w S ep ea).toList[i]? = some x := by simpa using hx
      rw [h1, h2, ex]; rfl
    · have h0 := hacc.1
      rw [List.getElem?_eq_none (by simp; omega), List.getElem?_eq_none (by simp; omega)]
  rw [e]
  exact (walk_perm w S ep ea).map _
theorem sorted_set {S : Addr} {ps : List (List Int × Addr)} {Q : Value → Shared → Prop} (hh : A.handled = none) (hS : SetP prog w s.heap S (ledW w) ps) (hne : ∀ p ∈ ps, p.1 ≠ []) (h64 : ps.length < 64)
    (h : ∀ (D : Addr) (h' : Heap) (tk n : Nat) (out : List (List Int × Addr)), out.Perm ps → (∀ b o, s.heap.get? b = some o → h'.get? b = some o) → s.heap.objs.size ≤ D →
      h'.get? D = some (seqObj "list" (out.map fun p => Value.ref p.2).toArray n) → Q (.ref D) { s with heap := h', toks := tk }) : wpAny (model prog w) A (call (.builtin "sorted") [.ref S]) Q E s := by
  obtain ⟨ea, ep, t, e0, hea, T, _, hl, hp⟩ := hS.ob
  have hlen : ea.size = ps.length := by rw [← Array.length_toList, hea]; simp
  have hW : SetW w s.heap S ep ea t := ⟨e0, by rw [hea]; exact T, hl, hp⟩
  refine Calls.call_function_entry kind_sorted plain_sorted entry_sorted (args_sorted1 _) ?_
  unfold Builtin.«sorted»
  refine wpAny_bind (m := checkCount "sorted" 1 1 _) (wpAny_pure ?_)
  refine wpAny_bind (collect_set (A := A.in1) hh hW (by rw [hlen, sizeLine_eq]; omega) fun h1 tk vs hk hsz hv => ?_)
  have hv' : vs.Perm (ps.map fun p => Value.ref p.2) := by
    rw [hea, List.map_map] at hv
    exact hv
  obtain ⟨ms, rfl, pm⟩ := perm_map_inv hv'
  refine wpAny_bind (wpAny_newList ?_ (hsz := by rw [List.length_map, pm.length_eq, sizeLine_eq]; omega))
  have ht : TupsAt prog w (h1.push (seqObj "list" (ms.map fun p => Value.ref p.2).toArray 0)) ms := fun p hp => ⟨hne p (pm.mem_iff.mp hp), IsTupleKey.same (hS.tup p (pm.mem_iff.mp hp)) fun o e => Heap.get?_push_of_some _ (hk _ _ e)⟩
  have hget : (h1.push (seqObj "list" (ms.map fun p => Value.ref p.2).toArray 0)).get? h1.objs.size = some (seqObj "list" (ms.map fun p => Value.ref p.2).toArray 0) := Heap.get?_push_size _ rfl
  refine wpAny_bind (wpAny_holding (wpAny_call_entry slot_list_sort ⟨_, hget, rfl⟩ entry_list_sort (list_sort_tups hget ht (by rw [pm.length_eq]; exact h64) fun out po => ⟨_, rfl, ?_⟩) (args_list_sort _)))
  obtain ⟨n, hn⟩ := sortedHeap_at (vs := ms.map fun p => Value.ref p.2) (out := (out.map fun p => Value.ref p.2).toArray) hget
  refine wpAny_pure ⟨_, rfl, h h1.objs.size _ tk n out (po.trans pm) (fun b o e => ?_) (Nat.le_of_lt hsz) hn⟩
  have e1 := hk b o e
  rw [sortedHeap_old (Nat.ne_of_lt (Heap.lt_size e1)) (by rw [Heap.size_push]; exact Nat.lt_succ_of_lt (Heap.lt_size e1))]
  exact Heap.get?_push_of_some _ e1
end
end TS
namespace RD
open PySem PyProof.Rows PySem.Calls PySem.W
def RawAt (h : Heap) (d : Addr) (es : Array DictEntry) (ep : Nat) : Prop := ∃ o, h.get? d = some o ∧ o.ExactDict ∧ o.data = .dict es ep
theorem RawAt.typeIs {s : Shared} {d : Addr} {es : Array DictEntry} {ep : Nat} (x : RawAt s.heap d es ep) : s.TypeIs (.ref d) "dict" := let ⟨o, ho, hc, _⟩ := x; ⟨o, ho, hc.1⟩
theorem RawAt.lt {h : Heap} {d : Addr} {es : Array DictEntry} {ep : Nat} (x : RawAt h d es ep) : d < h.objs.size := let ⟨_, ho, _⟩ := x; Heap.lt_size ho
section
variable {prog : Program} {w : World} {A : Around} {E : Value → Shared → Prop} {s : Shared} {d it : Addr} {es : Array DictEntry} {ep i : Nat}
theorem pyIter_raw {Q : Value → Shared → Prop} (hd : (d == sysModules) = false) (hm : RawAt s.heap d es ep)
    (hQ : Q (.ref s.heap.objs.size) { s with heap := s.heap.push { cls := .type "dict_keyiterator", data := .fields #[.ref d, .int 0 0, .int es.size 0, .int ep 0] } }) : wpAny (model prog w) A (pyIter (.ref d)) Q E s := by
  let ⟨o, ho, _, hdat⟩ := hm
  apply wpAny_pyIter_slot hm.typeIs PySem.F.slot_dict_iter; apply wpAny_call_entry PySem.F.slot_dict_iter hm.typeIs PySem.F.entry_dict_iter _ (PySem.F.args_dict_iter_1 _)
  simp only [Builtin.«dict.__iter__», Builtin.Dict.dictSlotNone]
  apply wpAny_bind; apply wpAny_bind; apply wpAny_notOrdered_dict hm.typeIs
  refine (wpAny_pure (a := Value.ref d) ?_ :)
  have nd : ¬ (d == sysModules) = true := by simp [hd]
  change wpAny _ _ (Builtin.Dict.showsAll d >>= _) _ _ s
  unfold Builtin.Dict.showsAll
  rw [if_neg nd]; apply wpAny_bind; apply wpAny_pure; apply wpAny_bind; apply wpAny_dictEntries ho hdat; apply wpAny_bind; apply wpAny_dictEpoch ho hdat
  apply wpAny_bind; refine wpAny_newObj_type (wpAny_pure ?_)
  exact ⟨_, rfl, "dict_keyiterator", _, ⟨_, Heap.get?_push_size _ rfl, rfl⟩, PySem.F.slot_dict_keyiterator_next.lookup, by simpa [rawInt] using hQ⟩
theorem next_gen {Q : Option Value → Shared → Prop} (hh : es.size ≤ i → A.handled = none) (hit : s.heap.IsKeyIter it d i es.size ep) (hm : RawAt s.heap d es ep)
    (hQ : ∀ e, es[i]? = some e → ∀ h', h'.IsKeyIter it d (i + 1) es.size ep → Heap.SameBut it s.heap h' → Q (some e.key) { s with heap := h' })
    (hR : es.size ≤ i → ∀ h', Heap.ExtBut it s.heap h' → Q none { s with heap := h' }) : wpAny (model prog w) A (pyNext (.ref it)) Q E s := by
  let ⟨o, ho, hc, hd⟩ := hit; let ⟨od, hod, _, hdd⟩ := hm; have nT := hit.typeIs
  have no : Builtin.Dict_items.ownsTuple "dict_keyiterator" = false := by decide
  simp only [pyNext]; apply wpAny_bind; apply wpAny_attempt; apply wpAny_callSpecial?_slot (name := Str.ofString "__next__") nT PySem.F.slot_dict_keyiterator_next; apply wpAny_call_entry PySem.F.slot_dict_keyiterator_next nT PySem.F.entry_dict_keyiterator_next _ (PySem.F.args_dict_keyiterator_next_1 _)
  apply wpAny_bind; apply wpAny_pure; apply wpAny_bind; apply wpAny_bind; apply wpAny_bind
  (first | apply wpAny_typeNameOfWhole_keyiter nT | apply wpAny_typeNameOf_keyiter nT); apply wpAny_pure; apply wpAny_bind; apply wpAny_fieldsOf ho hd
  rw [no]; rw [if_neg Bool.false_ne_true]
  have nn : ¬ (Value.ref d == Value.none) = true := Bool.false_ne_true
  change wpAny _ _ (ite ((Value.ref d == Value.none) = true) _ _) _ _ s; rw [if_neg nn]
  apply wpAny_bind; apply wpAny_pure; apply wpAny_bind; apply wpAny_dictEntries hod hdd
  rw [if_neg (by simp)]; apply wpAny_bind; apply wpAny_pure; apply wpAny_bind; apply wpAny_dictEpoch hod hdd; rw [if_neg (by simp)]; apply wpAny_pure
  have n0 : ¬ (i : Int) < 0 := Int.not_lt.mpr (Int.natCast_nonneg i)
  rcases Nat.lt_or_ge i es.size with lt | ge
  · simp only [n0, if_false, Int.toNat_natCast, Array.getElem?_eq_getElem lt]
    apply wpAny_bind; apply wpAny_bind; (first | apply wpAny_typeNameOfWhole_keyiter nT | apply wpAny_typeNameOf_keyiter nT); apply wpAny_pure; apply wpAny_bind; apply wpAny_isOneOf_keyiter nT
    refine (wpAny_bind (wpAny_setField (i := 1) (x := rawInt ((i : Int) + 1)) ho hd (by simp) ?_) :)
    have up : (s.heap.update it (Obj.mapFields (·.setIfInBounds 1 (rawInt ((i : Int) + 1))))).IsKeyIter it d (i + 1) es.size ep := ⟨_, Heap.get?_update_self _ ho (Obj.isFreed_of_fields (Obj.data_mapFields hd _)), (Obj.cls_mapFields ..).trans hc, by simp [Obj.data_mapFields hd, rawInt]⟩
    apply wpAny_bind; apply wpAny_holding; apply wpAny_bind; apply wpAny_isOneOf_keyiter up.typeIs
    change wpAny _ _ (pure es[i].key) _ _ _; exact wpAny_pure (wpAny_pure ⟨_, rfl, wpAny_pure (hQ es[i] (Array.getElem?_eq_getElem lt) _ up (Heap.SameBut.update ..))⟩)
  · simp only [n0, if_false, Int.toNat_natCast, Array.getElem?_eq_none ge]
    apply wpAny_bind; apply wpAny_bind; (first | apply wpAny_typeNameOfWhole_keyiter nT | apply wpAny_typeNameOf_keyiter nT); apply wpAny_pure
    refine (wpAny_bind (wpAny_setField (i := 0) (x := Value.none) ho hd (by simp) ?_) :)
    have hn : A.in1.handled = none := hh ge
    change wpAny _ _ (newExc (.type "StopIteration") [] >>= _) _ _ _
    apply wpAny_bind; simp only [newExc, newTuple, raiseNew]
    apply wpAny_bind; refine wpAny_newObj_type ?_ (by size_fits)
    apply wpAny_bind; refine wpAny_of_eq (a := Value.none) (by rfl) ?_
    refine wpAny_newObj_type ?_ (by size_fits)
    apply wpAny_bind; apply wpAny_handled; rw [hn]; refine wpAny_bind (wpAny_pure ?_); apply wpAny_throw
    apply wpAny_bind; refine wpAny_isInstance (b := true) (T := "StopIteration") ?_ isSubtype_stop (wpAny_pure ?_); exact ⟨_, Heap.get?_push_size _ rfl, rfl⟩
    exact hR ge _ (((Heap.SameBut.update ..).extBut.push _).push _)
theorem next_item {e : DictEntry} {Q : Option Value → Shared → Prop} (hit : s.heap.IsKeyIter it d i es.size ep) (hm : RawAt s.heap d es ep) (hx : es[i]? = some e)
    (hQ : ∀ h', h'.IsKeyIter it d (i + 1) es.size ep → Heap.SameBut it s.heap h' → Q (some e.key) { s with heap := h' }) : wpAny (model prog w) A (pyNext (.ref it)) Q E s :=
  next_gen (fun ge => by simp [Array.getElem?_eq_none ge] at hx) hit hm (fun e' he' => by cases hx.symm.trans he'; exact hQ) fun ge => by simp [Array.getElem?_eq_none ge] at hx
theorem next_end {Q : Option Value → Shared → Prop} (hh : A.handled = none) (hit : s.heap.IsKeyIter it d i es.size ep) (hm : RawAt s.heap d es ep) (hge : es.size ≤ i)
    (hQ : ∀ h', Heap.ExtBut it s.heap h' → Q none { s with heap := h' }) : wpAny (model prog w) A (pyNext (.ref it)) Q E s :=
  next_gen (fun _ => hh) hit hm (fun e he => by simp [Array.getElem?_eq_none hge] at he) fun _ => hQ
theorem iter_self {n : Nat} {Q : Value → Shared → Prop} (hit : s.heap.IsKeyIter it d i n ep) (hQ : Q (.ref it) s) : wpAny (model prog w) A (pyIter (.ref it)) Q E s := by
  refine wpAny_pyIter_slot hit.typeIs PySem.F.slot_dict_keyiterator_iter (wpAny_call_entry PySem.F.slot_dict_keyiterator_iter hit.typeIs PySem.F.entry_dict_keyiterator_iter ?_ (PySem.F.args_dict_keyiterator_iter_1 _))
  show wpAny _ _ (ret (.ref it)) _ _ s
  exact wpAny_pure ⟨_, rfl, "dict_keyiterator", _, hit.typeIs, PySem.F.slot_dict_keyiterator_next.lookup, hQ⟩
theorem walks_raw (hh : A.handled = none) (it d : Addr) (hne : d ≠ it) (es : Array DictEntry) (ep : Nat) :
    Walks prog w A it [it, d] [it] es.size (fun i v => ∃ e, es[i]? = some e ∧ v = e.key) (fun i h => h.IsKeyIter it d i es.size ep ∧ RawAt h d es ep) where
  sub := fun b hb => by simp at hb; simp [hb]
  frame := fun i h h' st hk => by
    obtain ⟨⟨o, a1, a2⟩, ⟨o', b1, b2⟩⟩ := st
    exact ⟨⟨o, hk it (by simp) _ a1, a2⟩, ⟨o', hk d (by simp) _ b1, b2⟩⟩
  item := fun i s Q E hi st hQ => by
    refine next_item st.1 st.2 (e := es[i]) (by simp [hi]) fun h' hit' hs' => ?_
    obtain ⟨_, o', b1, b2⟩ := st
    exact hQ _ h' s.toks ⟨_, by simp [hi], rfl⟩ ⟨hit', o', (hs'.2 d hne).trans b1, b2⟩ fun b o hb e => hs'.extBut b o (fun h => hb (by simp [h])) e
  done := fun s Q E st hQ => next_end hh st.1 st.2 (Nat.le_refl _) fun h' he' => hQ h' s.toks fun b o hb e => he' b o (fun h => hb (by simp [h])) e
  self := fun i s Q E st hQ => iter_self st.1 hQ
theorem src_raw (lo : (d == sysModules) = false) (es : Array DictEntry) (ep : Nat) : KdlSrc prog w "dict" d d es.size (fun i v => ∃ e, es[i]? = some e ∧ v = e.key) (fun h => RawAt h d es ep) where
  type := fun _ hm => hm.typeIs
  there := fun _ hm => ⟨hm.lt, hm.lt⟩
  keep := fun _ _ ⟨o, e, r⟩ hk => ⟨o, hk d (.inl rfl) o e, r⟩
  notList := by decide
  notTuple := by decide
  hint := fun _ _ _ _ hm hq => kdl_hint_dict hm.typeIs hq
  iter := fun _ _ hh hm => ⟨_, _, (fun _ _ hq => pyIter_raw lo hm hq), walks_raw hh _ d (Nat.ne_of_lt hm.lt) es ep, ⟨⟨_, Heap.get?_push_size _ rfl, rfl, rfl⟩, let ⟨o, e, r⟩ := hm; ⟨o, Heap.get?_push_of_some _ e, r⟩⟩⟩
end
end RD
namespace L2
open PySem PySem.Spec PyProof.Rows
section
variable {X : Cx} {pins : List (Addr × Obj)} {σ : St} {H : Hp} {s : Shared} {d : Addr} {u : HO} {o : Obj}
theorem mut_ne {u : HO} (m : Mut (some u)) : (∀ xs, u ≠ .tup xs) ∧ (∀ o v, u ≠ .frz o v) ∧ (∀ ps, u ≠ .tbl ps) ∧ ∀ x, u ≠ .own x :=
  ⟨fun xs z => by rw [z] at m; exact m, fun o v z => by rw [z] at m; exact m, fun ps z => by rw [z] at m; exact m, fun x z => by rw [z] at m; exact m⟩
theorem Inv.freeze (I : Inv X pins σ H s) (e : H d = some u) (m : Mut (some u)) (ho : s.heap.get? d = some o) : Inv X pins σ (upd H d (.frz o u)) s := by
  obtain ⟨m1, m2, m3, m4⟩ := mut_ne m
  have hne : ∀ b v, H b = some v → v ≠ u → b ≠ d := fun b v q n z => by rw [z, e] at q; exact n (Option.some.inj q).symm
  have un : Un X.fs [] H (upd H d (.frz o u)) s.heap s.heap := ⟨fun b ob q _ _ _ => q, fun b ob q _ _ _ => ⟨ob.slots, q⟩, fun b ob q n _ => by rw [upd_ne (Ne.symm (ne_of_none e n))]; exact n, fun b ob q _ => ⟨ob, q⟩,
    fun b xs q => by rw [upd_ne (hne b _ q fun z => m1 xs z.symm)]; exact q, fun b ob v q => by rw [upd_ne (hne b _ q fun z => m2 _ _ z.symm)]; exact q, fun b ps q => ⟨#[], by rw [upd_ne (hne b _ q fun z => m3 _ z.symm), q]; simp⟩⟩
  have st : ∀ a ob, ObjOk X.prog X.w H s.heap a ob → ObjOk X.prog X.w (upd H d (.frz o u)) s.heap a ob := fun a ob x =>
    x.stay (fun _ _ _ q => q) (fun b q => by rw [upd_ne (hne b _ q fun z => m4 _ z.symm)]; exact q) fun b xs q => by rw [upd_ne (hne b _ q fun z => m1 _ z.symm)]; exact q
  have := I.un (t' := s.toks) un fun a ob q => by
    by_cases ha : a = d
    · subst ha
      rw [upd_same] at q
      cases q
      exact ⟨ho, st _ _ (I.hok _ _ e)⟩
    · rw [upd_ne ha] at q
      exact st _ _ (I.hok _ _ q)
  exact this
theorem Inv.unfreeze (I : Inv X pins σ H s) (e : H d = some (.frz o u)) (m : Mut (some u)) (h0 : ∀ o' u', X.H₀ d ≠ some (.frz o' u')) : Inv X pins σ (upd H d u) s := by
  obtain ⟨m1, m2, m3, m4⟩ := mut_ne m
  have hne : ∀ b v, H b = some v → (∀ o' u', v ≠ .frz o' u') → b ≠ d := fun b v q n z => by rw [z, e] at q; exact n _ _ (Option.some.inj q).symm
  have hno : ∀ b, H b = none → b ≠ d := fun b n z => by rw [z, e] at n; cases n
  have st : ∀ a ob, ObjOk X.prog X.w H s.heap a ob → ObjOk X.prog X.w (upd H d u) s.heap a ob := fun a ob x =>
    x.stay (fun _ _ _ q => q) (fun b q => by rw [upd_ne (hne b _ q fun _ _ z => by cases z)]; exact q) fun b xs q => by rw [upd_ne (hne b _ q fun _ _ z => by cases z)]; exact q
  refine ⟨I.ok, I.os, I.bare, ⟨I.base.keep, I.base.slot, fun b ob q n hx => ?_, I.base.there, fun b xs q => ?_, fun b ob v q => ?_, fun b ps q => ?_⟩, I.loc, I.cell, ?_, fun x c q => ?_, fun p hp => ?_, fun a ob q => ?_, I.len⟩
  · have := I.base.free b ob q n hx
    rw [upd_ne (hno b this)]; exact this
  · have := I.base.tups b xs q
    rw [upd_ne (hne b _ this fun _ _ z => by cases z)]; exact this
  · have := I.base.frzs b ob v q
    have hb : b ≠ d := fun z => h0 ob v (by rw [← z]; exact q)
    rw [upd_ne hb]; exact this
  · obtain ⟨more, this⟩ := I.base.tbls b ps q
    exact ⟨more, by rw [upd_ne (hne b _ this fun _ _ z => by cases z)]; exact this⟩
  · rw [upd_ne (hno _ I.free)]; exact I.free
  · rw [upd_ne (hno _ (I.freeC x c q))]; exact I.freeC x c q
  · obtain ⟨h1, h2, h3⟩ := I.pin p hp
    exact ⟨h1, by rw [upd_ne (hno _ h2)]; exact h2, h3⟩
  · by_cases ha : a = d
    · subst ha
      rw [upd_same] at q
      cases q
      exact st _ _ (I.hok _ _ e).2
    · rw [upd_ne ha] at q
      exact st _ _ (I.hok _ _ q)
theorem Inv.nofrz (I : Inv X pins σ H s) (e : H d = some u) (m : Mut (some u)) : ∀ o' u', X.H₀ d ≠ some (.frz o' u') := fun o' u' z => by
  have := I.base.frzs d o' u' z
  rw [e] at this
  exact (mut_ne m).2.1 o' u' (Option.some.inj this)
end
def KeysV (H : Hp) (u : HO) (ks : List V) : Prop := (∃ kvs : List (Key × V), u = .dK kvs ∧ ks = kvs.map fun p => kV p.1) ∨
  ∃ kvs : List (List Key × V), u = .dT kvs ∧ Paired (fun (p : List Key × V) (x : V) => ∃ b, x = .ref b ∧ H b = some (.tup (p.1.map kV))) kvs ks
def IsDict (u : HO) : Prop := (∃ kvs, u = .dK kvs) ∨ ∃ kvs, u = .dT kvs
theorem IsDict.mut {u : HO} (h : IsDict u) : Mut (some u) := by
  rcases h with ⟨_, rfl⟩ | ⟨_, rfl⟩ <;> exact True.intro
theorem raw_of {P : Program} {w : World} {H : Hp} {h : Heap} {d : Addr} {u : HO} (hu : IsDict u) (x : ObjOk P w H h d u) : (d == sysModules) = false ∧ ∃ o es ep ks, h.get? d = some o ∧ o.ExactDict ∧ o.data = .dict es ep ∧ es.size ≤ sizeLine ∧ Vals ks (es.toList.map (·.key)) ∧ KeysV H u ks := by
  rcases hu with ⟨kvs, rfl⟩ | ⟨kvs, rfl⟩
  · obtain ⟨z, hd, vs, rel, o, es, ep, h1, h2, h3, h4, h5, h6⟩ := x
    have hl := rel.length
    have hl2 := h5.length
    refine ⟨hd, o, es, ep, kvs.map fun p => kV p.1, h1, h2, h3, by simp at hl2; omega, ?_, .inl ⟨kvs, rfl, rfl⟩⟩
    have go : ∀ {kvs : List (Key × V)} {vs : List (Key × Value)} {es : List DictEntry}, KV kvs vs → Pairs (mixKind P w) es vs → Vals (kvs.map fun p => kV p.1) (es.map (·.key)) := by
      intro kvs vs es r
      induction r generalizing es with
      | nil => intro p; cases p; exact .nil
      | cons q _ ih =>
        intro p
        cases p with
        | cons k1 _ p' =>
          refine .cons ?_ (ih p')
          obtain ⟨q1, _⟩ := q
          show RelV (kV _) _
          rw [q1]
          rcases keyIs_shape (show keyIs _ _ = true from k1) with ⟨i, t, e1, e2⟩ | ⟨y, t, e1, e2⟩
          · rw [e1]; show RelV _ (DictEntry.key _); rw [e2]; exact ⟨t, rfl⟩
          · rw [e1]; show RelV _ (DictEntry.key _); rw [e2]; exact ⟨t, rfl⟩
    exact go rel h5
  · obtain ⟨z, hd, xs, rel, o, es, ep, h1, h2, h3, h4, h5⟩ := x
    have hl := Paired.length rel
    refine ⟨hd, o, es, ep, xs.map fun q => .ref q.2.1, h1, h2, h3, ?_, ?_, .inr ⟨kvs, rfl, ?_⟩⟩
    · have := congrArg List.length h4
      simp at this
      omega
    · rw [h4, List.map_map]
      have : ∀ l : List (List Key × Addr × Value), Vals (l.map fun q => V.ref q.2.1) (l.map ((·.key) ∘ entryOfKey (tupleKind (mixKind P w)))) := by
        intro l
        induction l with
        | nil => exact .nil
        | cons q l ih => exact .cons rfl ih
      exact this xs
    · clear h4 h5 hl
      induction rel with
      | nil => exact .nil
      | cons q _ ih =>
        refine .cons ⟨_, rfl, q.2.1⟩ (ih ?_)
        simp at z
        omega
def Itd (d : Addr) (o : Obj) (u : HO) (ks : List V) : It := ⟨fun i H => H d = some (.frz o u) ∧ i < ks.length, fun i H x H' => H' = H ∧ ks[i]? = some x, fun i H => H d = some (.frz o u) ∧ ks.length ≤ i⟩
theorem turn_dict {P : Program} {w : World} {K : PySem.W.Frag} {tg : Expr} {d it : Addr} {o : Obj} {u : HO} {ks : List V} {es : Array DictEntry} {ep : Nat} (h2 : o.ExactDict) (h3 : o.data = .dict es ep) (h4 : Vals ks (es.toList.map (·.key))) :
    Turn P w K tg (Itd d o u ks) [it] it (fun i h => h.IsKeyIter it d i es.size ep) where
  mem := by simp
  obj := fun i h st b hb => by
    have e : b = it := by simpa using hb
    subst e
    obtain ⟨o, e, c, d⟩ := st
    exact ⟨o, e, fun v z => by rw [d] at z; cases z⟩
  keep := fun i h h' ⟨o, e, r⟩ k => ⟨o, k it (by simp) o e, r⟩
  item := by
    intro X hP hw hK hc i pins s σ H E I hf st hg
    subst hP hw hK
    obtain ⟨hz, hi⟩ := hg
    obtain ⟨ho, _⟩ := I.hok d _ hz
    have hn := h4.length
    simp at hn
    obtain ⟨uu, hu, ru⟩ := h4.get (List.getElem?_eq_getElem hi)
    obtain ⟨f0, f1, f2, f3, f4, f5⟩ := hf it (by simp)
    have hes : es[i]? = some (es[i]'(by omega)) := by simp
    have euu : uu = (es[i]'(by omega)).key := by
      rw [List.getElem?_map, List.getElem?_eq_getElem (by simp; omega)] at hu
      simpa using hu.symm
    refine RD.next_item st ⟨o, ho, h2, h3⟩ hes fun h' st' sb => ?_
    have I1 : Inv X pins σ H { s with heap := h' } := I.turned (t' := s.toks) (fun b o hb e => (sb.2 b hb).trans e) f0 f1 f3 f4 f5
    obtain ⟨oi, e, c, dd⟩ := id st'
    refine ⟨_, rfl, go_of (s := { s with heap := h' }) e c dd (by decide) ⟨ks[i], H, I1, ?_, ⟨rfl, List.getElem?_eq_getElem hi⟩, st', fun b hb => (hf b hb).1⟩⟩
    rw [← euu]
    exact ru
  done := by
    intro X hP hw hK hc i pins s σ H E I hf st hg
    subst hP hw hK
    obtain ⟨hz, hi⟩ := hg
    obtain ⟨ho, _⟩ := I.hok d _ hz
    have hn := h4.length
    simp at hn
    obtain ⟨f0, f1, f2, f3, f4, f5⟩ := hf it (by simp)
    exact RD.next_end (I.ok.hd hc) st ⟨o, ho, h2, h3⟩ (by omega) fun h' eb => ⟨rfl, I.turned (t' := s.toks) (fun b o hb e => eb b o hb e) f0 f1 f3 f4 f5⟩
  self := fun _ _ _ _ _ st h => RD.iter_self st h
section
variable {X : Cx} {tg : Expr}
def tForD (tl : TE) (g : TG) (tb : TS) : TS := fun D σ H => tl σ H fun x H1 => ∃ d u, x = .ref d ∧ H1 d = some u ∧ IsDict u ∧ ∀ o ks, KeysV H1 u ks →
  ∃ W : Nat → Nat → St → Hp → Prop, (∃ m, W 0 m σ (upd H1 d (.frz o u))) ∧ ∀ i m σ H, W i m σ H →
    ((Itd d o u ks).stop i H ∧ D.nx σ (upd H d u)) ∨ ((Itd d o u ks).go i H ∧ ∃ N : St → Hp → Prop, (∀ σ' H', N σ' H' → ∃ m', m' < m ∧ W (i + 1) m' σ' H') ∧ ∀ x H', (Itd d o u ks).yld i H x H' → g x σ H' fun σ2 H2 =>
      tb { nx := N, ct := N, bk := fun σ3 H3 => H3 d = some (.frz o u) ∧ D.nx σ3 (upd H3 d u), rt := fun v H3 => H3 d = some (.frz o u) ∧ D.rt v (upd H3 d u) } σ2 H2)
theorem ps_forD {l : Expr} {tl : TE} {body : List Stmt} {g : TG} {tb : TS} {pos : Pos} (hp : PassesOwn (model X.prog X.w) X.A X.env X.xe) (hc : X.calm = true) (hl : PE X l tl) (hg : PG X tg g) (hb : PSs X body tb)
    (hs : ∀ x, foldedSetIterable l X.env x = pure x := by intro _; rfl) : PS X (.For tg l body [] pos) (tForD tl g tb) := by
  intro pins s σ H D I h
  -- the iterable first, then the loop as ps_for has it
  refine wpAny_For (thn (hl pins s σ H _ I h) fun v s1 ⟨x, H1, I1, r1, q1⟩ => ?_) hs
  obtain ⟨d, u, e, hd, hu, q⟩ := q1
  subst e
  cases r1
  obtain ⟨lo, o, es, ep, ks, h1, h2, h3, h4, h5, h6⟩ := raw_of hu (I1.hok d u hd)
  have nf := I1.nofrz hd hu.mut
  refine RD.pyIter_raw lo ⟨o, h1, h2, h3⟩ ?_
  have I2a := I1.freeze hd hu.mut h1
  have I2 : Inv X pins σ (upd H1 d (.frz o u)) { s1 with heap := s1.heap.push { cls := .type "dict_keyiterator", data := .fields #[.ref d, .int 0 0, .int es.size 0, .int ep 0] } } := I2a.kept (t' := s1.toks) fun b o e => Heap.get?_push_of_some _ e
  have T : Turn X.prog X.w X.K tg (Itd d o u ks) [s1.heap.objs.size] s1.heap.objs.size (fun i h => h.IsKeyIter s1.heap.objs.size d i es.size ep) := turn_dict h2 h3 h5
  have f2 : ∀ b ∈ [s1.heap.objs.size], FpOk X pins (upd H1 d (.frz o u)) b := fun b hb => by
    have e : b = s1.heap.objs.size := by simpa using hb
    subst e
    exact I2a.fpOk (Nat.le_refl _) (I2a.hok.fresh (Nat.le_refl _))
  obtain ⟨W, ⟨m0, w0⟩, turn⟩ := q o ks h6
  have stat : ∀ {H' : Hp}, (∀ b ∈ [s1.heap.objs.size], H' b = none) → ∀ b ∈ [s1.heap.objs.size], FpOk X pins H' b := fun hn b hb => ⟨hn b hb, (f2 b hb).2⟩
  refine codeAny_forLoop_any (fun n s' => ∃ i σ' H', Inv X pins σ' H' s' ∧ s'.heap.IsKeyIter s1.heap.objs.size d i es.size ep ∧ (∀ b ∈ [s1.heap.objs.size], H' b = none) ∧ W i n σ' H') ?_ m0
    ⟨0, σ, _, I2, ⟨_, Heap.get?_push_size _ rfl, rfl, rfl⟩, fun b hb => (f2 b hb).1, w0⟩
  rintro n s3 ⟨i, σ3, H3, I3, st3, fr3, w3⟩
  rcases turn i n σ3 H3 w3 with ⟨stop, qn⟩ | ⟨go, N, hN, step⟩
  · refine wpAny_passesOwn hp (thn (T.done X rfl rfl rfl hc i pins s3 σ3 H3 X.xe I3 (stat fr3) st3 stop) fun r s4 ⟨hr, I4⟩ => ?_)
    subst hr
    exact wpAny_execs_nil ⟨σ3, _, I4.unfreeze stop.1 hu.mut nf, qn⟩
  · refine wpAny_passesOwn hp (thn (T.item X rfl rfl rfl hc i pins s3 σ3 H3 X.xe I3 (stat fr3) st3 go) fun r s4 ⟨u4, hr, h4⟩ => ?_)
    subst hr
    refine wpAny_passesOwn hp (thn h4 fun _ s5 ⟨x, H5, I5, r5, y5, st5, fr5⟩ => ?_)
    have I5' := I5.pinned (stat fr5) (T.obj _ _ st5)
    refine wpAny_passesOwn hp (thn (hg _ s5 σ3 H5 x u4 _ I5' r5 (step x H5 y5)) fun _ s6 ⟨σ6, H6, I6, q6⟩ => ?_)
    refine wpAny_passesOwn hp (thn (hb _ s6 σ6 H6 _ I6 q6) fun f s7 q7 => ?_)
    have again : ∀ {σ7 : St} {H7 : Hp}, Inv X (pins ++ pinsAt [s1.heap.objs.size] s5.heap) σ7 H7 s7 → N σ7 H7 → ∃ m, m < n ∧ ∃ i σ' H', Inv X pins σ' H' s7 ∧ s7.heap.IsKeyIter s1.heap.objs.size d i es.size ep ∧ (∀ b ∈ [s1.heap.objs.size], H' b = none) ∧ W i m σ' H' := fun {σ7 H7} I7 n7 => by
      obtain ⟨m', hm, w7⟩ := hN σ7 H7 n7
      refine ⟨m', hm, i + 1, σ7, H7, I7.unpinned, T.keep _ _ _ st5 fun b hb o e => (I7.pin (b, o) (List.mem_append_right _ (List.mem_append_right _ (mem_pinsAt hb e)))).1, fun b hb => ?_, w7⟩
      obtain ⟨o, e, d⟩ := T.obj _ _ st5 b hb
      exact (I7.pin (b, o) (List.mem_append_right _ (List.mem_append_right _ (mem_pinsAt hb e)))).2.1
    cases f with
    | next => obtain ⟨σ7, H7, I7, n7⟩ := q7; exact again I7 n7
    | cont => obtain ⟨σ7, H7, I7, n7⟩ := q7; exact again I7 n7
    | brk => obtain ⟨σ7, H7, I7, q7, q8⟩ := q7; exact ⟨σ7, _, I7.unpinned.unfreeze q7 hu.mut nf, q8⟩
    | ret v => obtain ⟨x7, σ7, H7, I7, r7, q7, q8⟩ := q7; exact ⟨x7, σ7, _, I7.unpinned.unfreeze q7 hu.mut nf, r7, q8⟩
end
theorem for_dict {d : Addr} {o : Obj} {u : HO} {ks : List V} {g : TG} {tb : TS} {D : Ends} {σ : St} {H : Hp} (Pv : Nat → St → Hp → Prop) (h0 : Pv 0 σ H) (hl : ∀ i σ H, i ≤ ks.length → Pv i σ H → H d = some (.frz o u))
    (hs : ∀ i x σ H, ks[i]? = some x → Pv i σ H → g x σ H fun σ2 H2 => tb { nx := Pv (i + 1), ct := Pv (i + 1), bk := fun σ3 H3 => H3 d = some (.frz o u) ∧ D.nx σ3 (upd H3 d u), rt := fun v H3 => H3 d = some (.frz o u) ∧ D.rt v (upd H3 d u) } σ2 H2)
    (hd : ∀ σ H, Pv ks.length σ H → D.nx σ (upd H d u)) :
    ∃ W : Nat → Nat → St → Hp → Prop, (∃ m, W 0 m σ H) ∧ ∀ i m σ H, W i m σ H →
      ((Itd d o u ks).stop i H ∧ D.nx σ (upd H d u)) ∨ ((Itd d o u ks).go i H ∧ ∃ N : St → Hp → Prop, (∀ σ' H', N σ' H' → ∃ m', m' < m ∧ W (i + 1) m' σ' H') ∧ ∀ x H', (Itd d o u ks).yld i H x H' → g x σ H' fun σ2 H2 =>
        tb { nx := N, ct := N, bk := fun σ3 H3 => H3 d = some (.frz o u) ∧ D.nx σ3 (upd H3 d u), rt := fun v H3 => H3 d = some (.frz o u) ∧ D.rt v (upd H3 d u) } σ2 H2) := by
  refine ⟨fun i m σ H => m = ks.length - i ∧ i ≤ ks.length ∧ Pv i σ H, ⟨ks.length, by simp, Nat.zero_le _, h0⟩, ?_⟩
  rintro i m σ H ⟨rfl, hi, p⟩
  have q := hl i σ H hi p
  by_cases hlt : i < ks.length
  · refine .inr ⟨⟨q, hlt⟩, Pv (i + 1), fun σ' H' p' => ⟨ks.length - (i + 1), by omega, rfl, hlt, p'⟩, fun x H' y => ?_⟩
    obtain ⟨e, y⟩ := y
    subst e
    exact hs i x σ _ y p
  · have e : i = ks.length := by omega
    subst e
    exact .inl ⟨⟨q, Nat.le_refl _⟩, hd σ H p⟩
section
variable {X : Cx}
theorem call_listD (hc : X.calm = true) : CallR X (.type "list") (fun xs H Q => ∃ d u, xs = [.ref d] ∧ H d = some u ∧ IsDict u ∧ ∀ l ks, H l = none → KeysV H u ks → Q (.ref l) (upd H l (.lst ks))) := by
  intro pins s σ H xs us Q I r h
  obtain ⟨d, u, rfl, hd, hu, q⟩ := h
  obtain ⟨v, rfl, rx⟩ := vals1 r
  cases rx
  obtain ⟨lo, o, es, ep, ks, h1, h2, h3, h4, h5, h6⟩ := raw_of hu (I.hok d u hd)
  refine PySem.W.kdl_call (RD.src_raw lo es ep) (I.ok.hd hc) ⟨o, h1, h2, h3⟩ h4 fun h' tk acc' c' hk hD hacc => ?_
  have hn := h5.length
  simp at hn
  have ea : acc'.toList = es.toList.map (·.key) := by
    have hz : acc'.size = es.size := hacc.1
    apply List.ext_getElem?
    intro i
    by_cases hi : i < acc'.size
    · obtain ⟨e, hx, ex⟩ := hacc.2 i acc'[i] (by simp [hi])
      rw [List.getElem?_map]
      have h1 : acc'.toList[i]? = some acc'[i] := by simp [hi]
      have h2 : es.toList[i]? = some e := by simpa using hx
      rw [h1, h2, ex]; rfl
    · rw [List.getElem?_eq_none (by simp; omega), List.getElem?_eq_none (by simp; omega)]
  refine ⟨.ref s.heap.objs.size, _, I.laid (t' := tk) (o := .lst ks) hk (Nat.le_refl _) ⟨by omega, acc'.toList, c', by rw [ea]; exact h5, ?_⟩, rfl, q _ ks (I.hok.fresh (Nat.le_refl _)) h6⟩
  rw [Array.toArray_toList]
  exact hD
end
section
variable {X : Cx} {o e f : Expr} {apos cpos : Pos} {td ty tx : TE}
def tDSetd (td ty tx : TE) : TE := fun σ H Q => td σ H fun x H1 => ∃ a, x = .ref a ∧ IsD H1 a ∧ ty σ H1 fun y H2 => tx σ H2 fun z H3 => ∃ kvs k, H3 a = some (.dK kvs) ∧ y = kV k ∧ kvs.length < sizeLine ∧
  (∀ v, valV kvs k = some v → Q v H3) ∧ (valV kvs k = none → Q z (upd H3 a (.dK (putK kvs k z))))
theorem d_setd {pins : List (Addr × Obj)} {σ : St} {H : Hp} {s : Shared} {a : Addr} {kvs : List (Key × V)} {k : Key} {z : V} {u r : Value} {A : Around} {E : Value → Shared → Prop} {Q : Value → Shared → Prop} (I : Inv X pins σ H s) (e : H a = some (.dK kvs)) (ry : RelV (kV k) u) (rz : RelV z r) (hl : kvs.length < sizeLine)
    (h1 : ∀ v w' s', valV kvs k = some v → Inv X pins σ H s' → RelV v w' → Q w' s') (h2 : ∀ s', valV kvs k = none → Inv X pins σ (upd H a (.dK (putK kvs k z))) s' → Q r s') :
    wpAny (model X.prog X.w) A (call (.builtin "dict.setdefault") [.ref a, u, r]) Q E s := by
  obtain ⟨hz, hd, vs, rel, dd⟩ := dk_of I.hok e
  refine call_meetsIn PySem.F.slot_dict_setdefault dd.typeIs PySem.F.entry_dict_setdefault (PySem.F.args_dict_setdefault_3 _ _ _) (kt_meets_setdefault (mixKind X.prog X.w) a (kV_is ry) hd r) ⟨vs, dd, by rw [← rel.length]; exact hz, fun v' hv => ?_, fun hn h' dd' hs => ?_⟩
  · have q := rel.val k
    rw [hv] at q
    cases l : valV kvs k with
    | none => rw [l] at q; exact q.elim
    | some v => rw [l] at q; exact h1 v v' _ l (I.tok _) q
  · have q := rel.val k
    rw [hn] at q
    have l : valV kvs k = none := by
      cases l : valV kvs k with
      | none => rfl
      | some v => rw [l] at q; exact q.elim
    have hl' : (putK kvs k z).length ≤ sizeLine := by have := length_putK kvs k z; omega
    have he : ∃ q, h'.get? a = some q := let ⟨q, _, _, hq, _⟩ := dd'; ⟨q, hq⟩
    exact h2 _ l (d_write I (by rw [e]; exact True.intro) hs he (dk_new hl' hd (rel.put k rz) dd'))
theorem pe_dsetd (ho : PE X o td) (he : PE X e ty) (hf : PE X f tx) (m : M2 X o "setdefault" apos e f cpos) : PE X (.Call (.Attribute o "setdefault" apos) [e, f] [] cpos) (tDSetd td ty tx) := by
  intro pins s σ H Q I h
  refine wpAny_Call_method m.base m.few m.line PySem.F.plainAttrs_dict PySem.F.slot_dict_setdefault PySem.F.type_dict_setdefault (thn (ho pins s σ H _ I h) fun u s1 ⟨x, H1, I1, rx, a, ex, d, q1⟩ => ?_)
  subst ex
  obtain rfl : u = Value.ref a := rx
  obtain ⟨t1, t2, _⟩ := isD_at I1 d
  refine ⟨t1, t2, ?_⟩
  rw [m.trees]
  refine Calls.callWith_builtin rfl (Calls.evalArgs_plain (Calls.spliced_cons (thn (he pins s1 σ H1 _ I1 q1) fun iv s2 ⟨y, H2, I2, ry, q2⟩ =>
    Calls.spliced_cons (thn (hf pins s2 σ H2 _ I2 q2) fun fv s3 ⟨z, H3, I3, rz, kvs, k, ha, ey, hl, q3, q4⟩ => Calls.spliced_nil ?_))))
  subst ey
  exact d_setd I3 ha ry rz hl (fun v w' s' l I' r' => ⟨v, H3, I', r', q3 v l⟩) fun s' l I' => ⟨z, _, I', rz, q4 l⟩
end
end L2
namespace L2
open PySem PySem.Spec PyProof.Rows
def TyV (K : PySem.W.Frag) (H : Hp) : V → String → Prop
  | .int _, T => T = "int"
  | .bl _, T => T = "bool"
  | .non, T => T = "NoneType"
  | .str _, T => T = "str"
  | .ref a, T => (T = "list" ∧ ∃ xs, SqL K H a xs) ∨ (T = "tuple" ∧ ∃ xs, SqT K H a xs) ∨ (T = "dict" ∧ ∃ u, H a = some u ∧ IsDict u)
  | _, _ => False
structure Isi (Tx T : String) (b : Bool) : Prop where
  sub : isSubtype (.type Tx) (.type T) = pure b
  ty : typeOf (.type T) = pure (.type "type")
  ne : b = true ∨ (Value.type Tx == Value.type T) = false
theorem ty_int : typeOf (.type "int") = pure (.type "type") := by first | rfl | kernel_rfl
theorem ty_bool : typeOf (.type "bool") = pure (.type "type") := by first | rfl | kernel_rfl
theorem ty_list : typeOf (.type "list") = pure (.type "type") := by first | rfl | kernel_rfl
theorem ty_tuple : typeOf (.type "tuple") = pure (.type "type") := by first | rfl | kernel_rfl
theorem isi_int_int : Isi "int" "int" true := ⟨by rw [isSubtype_type]; kernel_rfl, ty_int, .inl rfl⟩
theorem isi_int_bool : Isi "int" "bool" false := ⟨by rw [isSubtype_type]; kernel_rfl, ty_bool, .inr (by decide)⟩
theorem isi_list_list : Isi "list" "list" true := ⟨by rw [isSubtype_type]; kernel_rfl, ty_list, .inl rfl⟩
theorem isi_tuple_tuple : Isi "tuple" "tuple" true := ⟨by rw [isSubtype_type]; kernel_rfl, ty_tuple, .inl rfl⟩
section
variable {X : Cx}
theorem call_isi : CallR X (.builtin "isinstance") (fun xs H Q => ∃ (x : V) (Tx T : String) (b : Bool), xs = [x, .ty T] ∧ TyV X.K H x Tx ∧ Isi Tx T b ∧ Q (.bl b) H) := by
  intro pins s σ H xs us Q I r h
  obtain ⟨x, Tx, T, b, rfl, hx, hi, q⟩ := h
  obtain ⟨v, v2, rfl, rv, rt⟩ : ∃ v v2, us = [v, v2] ∧ RelV x v ∧ RelV (.ty T) v2 := by
    cases r with
    | cons p q => cases q with | cons p' q' => cases q'; exact ⟨_, _, rfl, p, p'⟩
  cases rt
  have tyIs : s.TypeIs v Tx := by
    cases x with
    | int i => obtain ⟨t, rfl⟩ := rv; cases hx; rfl
    | bl i => cases rv; cases hx; rfl
    | non => cases rv; cases hx; rfl
    | str i => obtain ⟨t, rfl⟩ := rv; cases hx; rfl
    | byt i => exact hx.elim
    | flt i => exact hx.elim
    | ty i => exact hx.elim
    | ref a =>
      cases rv
      rcases hx with ⟨rfl, xs, hq⟩ | ⟨rfl, xs, hq⟩ | ⟨rfl, u, hq, hu⟩
      · obtain ⟨its, _, p, _⟩ := I.list hq
        obtain ⟨o, n, h1, h2, _⟩ := p
        exact ⟨o, h1, h2⟩
      · obtain ⟨its, _, p, _⟩ := I.tuple hq
        obtain ⟨o, h1, h2, _⟩ := p
        exact ⟨o, h1, h2⟩
      · obtain ⟨_, o, es, ep, ks, h1, h2, _⟩ := raw_of hu (I.hok a u hq)
        exact ⟨o, h1, h2.1⟩
  cases b with
  | true => exact call_isinstance_yes tyIs hi.ty hi.sub ⟨.bl true, H, I, rfl, q⟩
  | false =>
    have hne : (Value.type Tx == Value.type T) = false := by
      rcases hi.ne with z | z
      · cases z
      · exact z
    have I1 : Inv X pins σ H { s with toks := s.toks + 1 } := I.tok _
    have fin : EP X pins σ Q (.bool false) { s with toks := s.toks + 1 } := ⟨.bl false, H, I1, rfl, q⟩
    cases x with
    | int i => obtain ⟨t, rfl⟩ := rv; cases hx; exact call_isinstance (isinstance_false_int hne hi.ty hi.sub) fin
    | bl i => cases rv; cases hx; exact call_isinstance (isinstance_false_bool hne hi.ty hi.sub) fin
    | non => cases rv; cases hx; exact call_isinstance (isinstance_false_none hne hi.ty hi.sub) fin
    | str i => obtain ⟨t, rfl⟩ := rv; cases hx; exact call_isinstance (isinstance_false_str hne hi.ty hi.sub) fin
    | byt i => exact hx.elim
    | flt i => exact hx.elim
    | ty i => exact hx.elim
    | ref a =>
      cases rv
      rcases hx with ⟨rfl, xs, hq⟩ | ⟨rfl, xs, hq⟩ | ⟨rfl, u, hq, hu⟩
      · exact call_isinstance (isinstance_false_list hne hi.ty hi.sub) ⟨tyIs, fin⟩
      · exact call_isinstance (isinstance_false_tuple hne hi.ty hi.sub) ⟨tyIs, fin⟩
      · exact call_isinstance (isinstance_false_dict hne hi.ty hi.sub) ⟨tyIs, fin⟩
end
end L2
namespace L2
open PySem PySem.Spec PyProof.Rows
section
variable {X : Cx} {pins : List (Addr × Obj)} {σ : St} {H : Hp} {s : Shared} {h' : Heap}
theorem Inv.turnedL {fp : List Addr} {t' : Nat} (I : Inv X pins σ H s) (hf : ∀ b ∈ fp, FpOk X pins H b) (k : ∀ b o, b ∉ fp → s.heap.get? b = some o → h'.get? b = some o) : Inv X pins σ H { s with heap := h', toks := t' } := by
  have nit : ∀ b u, H b = some u → b ∉ fp := fun b u e z => by rw [(hf b z).1] at e; cases e
  refine I.step (g' := s.gens) (d' := s.drawn) (ch := fp) (fun b hb => ?_) (fun b o _ _ hc e _ => k b o hc e) (fun b o _ _ hc e _ => ⟨o.slots, k b o hc e⟩) (fun _ _ _ _ n => n)
    (fun b o hc e => ⟨o, k b o hc e⟩) (fun _ _ e => e) (fun _ _ _ e => e) (fun b ps e => ⟨#[], by rw [e]; simp⟩) (fun m hm => ?_) (fun b u e => ?_) I.bare
  · obtain ⟨_, f1, _, f3, f4, f5⟩ := hf b hb
    exact ⟨f3, f1, f4, f5⟩
  · obtain ⟨o, es, ep, ho, r⟩ := hm
    exact ⟨o, es, ep, k _ o (fun z => (hf _ z).2.1 rfl) ho, r⟩
  · refine (I.hok b u e).stay (fun c v hc q => k c v ?_ q) (fun _ q => q) fun _ _ q => q
    rcases hc with z | z
    · rw [z]; exact nit b u e
    · exact nit c _ z
theorem Inv.turnedT {fp : List Addr} {t' : Nat} {T : Addr} {o : HO} (I : Inv X pins σ H s) (hf : ∀ b ∈ fp, FpOk X pins H b) (k : ∀ b o, b ∉ fp → s.heap.get? b = some o → h'.get? b = some o) (hT : s.heap.objs.size ≤ T) (new : ObjOk X.prog X.w (upd H T o) h' T o) :
    Inv X pins σ (upd H T o) { s with heap := h', toks := t' } := by
  have T0 : H T = none := I.hok.fresh hT
  have nit : ∀ b u, H b = some u → b ∉ fp := fun b u e z => by rw [(hf b z).1] at e; cases e
  refine I.step (g' := s.gens) (d' := s.drawn) (ch := fp) (fun b hb => ?_) (fun b o _ _ hc e _ => k b o hc e) (fun b o _ _ hc e _ => ⟨o.slots, k b o hc e⟩) (fun b ob _ q n => ?_)
    (fun b o hc e => ⟨o, k b o hc e⟩) (fun b xs e => ?_) (fun b ob v e => ?_) (fun b ps e => ⟨#[], ?_⟩) (fun m hm => ?_) (fun b u e => ?_) I.bare
  · obtain ⟨_, f1, _, f3, f4, f5⟩ := hf b hb
    exact ⟨f3, f1, f4, f5⟩
  · rw [upd_ne (Nat.ne_of_lt (Nat.lt_of_lt_of_le (Heap.lt_size q) hT))]; exact n
  · rw [upd_ne (ne_of_none e T0)]; exact e
  · rw [upd_ne (ne_of_none e T0)]; exact e
  · rw [upd_ne (ne_of_none e T0), e]; simp
  · obtain ⟨o, es, ep, ho, r⟩ := hm
    exact ⟨o, es, ep, k _ o (fun z => (hf _ z).2.1 rfl) ho, r⟩
  · by_cases hb : b = T
    · subst hb
      rw [upd_same] at e
      cases e
      exact new
    · rw [upd_ne hb] at e
      refine (I.hok b u e).stay (fun c v hc q => k c v ?_ q) (fun c q => by rw [upd_ne (ne_of_none q T0)]; exact q) fun c xs q => by rw [upd_ne (ne_of_none q T0)]; exact q
      rcases hc with z | z
      · rw [z]; exact nit b u e
      · exact nit c _ z
theorem FpOk.upd {b a : Addr} {o : HO} (f : FpOk X pins H b) (h : b ≠ a) : FpOk X pins (upd H a o) b := ⟨by rw [upd_ne h]; exact f.1, f.2⟩
end
def Ite (l : Addr) (xs : List V) : It := ⟨fun i H => Rd H l (.lst xs) ∧ i < xs.length, fun i H v H' => ∃ T x, H T = none ∧ v = .ref T ∧ H' = upd H T (.tup [.int i, x]) ∧ xs[i]? = some x, fun i H => Rd H l (.lst xs) ∧ xs.length ≤ i⟩
theorem turn_enum {P : Program} {w : World} {K : PySem.W.Frag} {elts : List Expr} {k : Nat} {tp : Pos} {l e it : Addr} {xs : List V} (hei : e ≠ it) :
    Turn P w K (.Tuple elts k tp) (Ite l xs) [e, it] e (fun i h => (∃ old, IsEnum h e it i old) ∧ h.IsListIter it l i) where
  mem := by simp
  obj := fun i h st b hb => by
    obtain ⟨⟨old, a1⟩, o, b1, _, b3⟩ := st
    rcases List.mem_cons.mp hb with rfl | hb
    · exact ⟨_, a1, fun v z => nomatch z⟩
    · have : b = it := by simpa using hb
      subst this
      exact ⟨o, b1, fun v z => by rw [b3] at z; cases z⟩
  keep := fun i h h' st kk => ⟨let ⟨old, a1⟩ := st.1; ⟨old, kk e (by simp) _ a1⟩, st.2.at fun o x => kk it (by simp) o x⟩
  item := by
    intro X hP hw hK hc i pins s σ H E I hf st hg
    subst hP hw hK
    obtain ⟨hl, hi⟩ := hg
    obtain ⟨hz, its, n, rv, hget⟩ := hl.ok I.hok
    obtain ⟨⟨old, he⟩, hit⟩ := st
    obtain ⟨u, hu, ru⟩ := rv.get (List.getElem?_eq_getElem hi)
    have hL : s.heap.IsList l its.toArray := ⟨_, hget, rfl, n, rfl⟩
    refine wpAny_pyNext_enum_item he hit hL (x := u) (by simpa using hu) hei fun h' a1 a2 a3 a4 a5 => ?_
    have T0 : H s.heap.objs.size = none := I.hok.fresh (Nat.le_refl _)
    have helt : e < s.heap.objs.size := Heap.lt_size he
    have hilt : it < s.heap.objs.size := by obtain ⟨_, y, _⟩ := hit; exact Heap.lt_size y
    have I2 : Inv X pins σ (upd H s.heap.objs.size (.tup [.int i, xs[i]])) { s with heap := h', toks := s.toks + 1 } :=
      I.turnedT hf (fun b o hb q => a5 b o (fun z => hb (by simp [z])) (fun z => hb (by simp [z])) q) (Nat.le_refl _) ⟨by show 2 ≤ sizeLine; decide, [.int i s.toks, u], .cons ⟨_, rfl⟩ (.cons ru .nil), _, a3, rfl, _, rfl⟩
    refine ⟨_, rfl, wpAny_letOwnedTupleGo_enum a1 fun h2 b1 b2 => ?_⟩
    have f2 : ∀ b ∈ [e, it], FpOk X pins (upd H s.heap.objs.size (.tup [.int i, xs[i]])) b := fun b hb => (hf b hb).upd (by
      rcases List.mem_cons.mp hb with rfl | hb
      · exact Nat.ne_of_lt helt
      · rw [show b = it by simpa using hb]; exact Nat.ne_of_lt hilt)
    refine ⟨.ref s.heap.objs.size, _, I2.turnedL (h' := h2) (t' := s.toks + 1) f2 (fun b o hb q => (b2.2 b (fun z => hb (by simp [z]))).trans q), rfl, ⟨_, _, T0, rfl, rfl, List.getElem?_eq_getElem hi⟩, ⟨⟨u, by simpa using b1⟩, a2.extBut b2.extBut (Ne.symm hei)⟩, fun b hb => (f2 b hb).1⟩
  done := by
    intro X hP hw hK hc i pins s σ H E I hf st hg
    subst hP hw hK
    obtain ⟨hl, hi⟩ := hg
    obtain ⟨hz, its, n, rv, hget⟩ := hl.ok I.hok
    obtain ⟨⟨old, he⟩, hit⟩ := st
    have hL : s.heap.IsList l its.toArray := ⟨_, hget, rfl, n, rfl⟩
    have hn := rv.length
    exact wpAny_pyNext_enum_end (I.ok.hd hc) he hit hL (by simp; omega) fun h' eb => ⟨rfl, I.turnedL (t' := s.toks) hf fun b o hb q => eb b o (fun z => hb (by simp [z])) q⟩
  self := fun _ _ _ _ _ st h => let ⟨_, he⟩ := st.1; wpAny_pyIter_enum he h
def iEnum (ta : TA) : TI := fun σ H R => ta σ H fun vs H1 => ∃ l xs, vs = [.ref l] ∧ Rd H1 l (.lst xs) ∧ R (Ite l xs) H1
theorem bo_enumerate : bootBuiltins "enumerate" = some (.type "enumerate") := by decide +kernel
theorem pi_enum {X : Cx} {elts : List Expr} {k : Nat} {tp : Pos} {a : Expr} {ta : TA} {p pos : Pos} (hg : Gl X "enumerate") (hm : X.mg "enumerate" = none) (ha : PA X [a] ta) (hs : starEach [a] X.env = [(false, eval a X.env)] := by rfl) :
    PI X (.Tuple elts k tp) (.Call (.Name "enumerate" p) [a] [] pos) (iEnum ta) := by
  intro pins s σ H R I h
  refine Call_ (ld_blt I hg hm bo_enumerate (PyProof.Rows.callWith_type1 (thn (ha pos pins s σ H _ I h) fun us s1 ⟨vs, H1, I1, r1, q1⟩ => ?_) hs rfl))
  obtain ⟨l, xs, e, hl, q⟩ := q1
  subst e
  obtain ⟨v, rfl, rx⟩ := vals1 r1
  cases rx
  obtain ⟨hz, its, n, rv, hget⟩ := hl.ok I1.hok
  refine call_enumerate_1 hget fun h' b1 b2 b3 b4 => wpAny_pyIter_enum b1 ?_
  have I2 : Inv X pins σ H1 { s1 with heap := h' } := I1.kept (t' := s1.toks) b4
  refine ⟨s1.heap.objs.size + 1, [s1.heap.objs.size + 1, s1.heap.objs.size], _, _, H1, rfl, I2, turn_enum (l := l) (xs := xs) (Nat.succ_ne_self _), ⟨⟨.none, b1⟩, b2⟩, fun b hb => ?_, q⟩
  have hb' : s1.heap.objs.size ≤ b := by
    rcases List.mem_cons.mp hb with rfl | hb
    · exact Nat.le_succ _
    · rw [show b = s1.heap.objs.size by simpa using hb]; exact Nat.le_refl _
  exact I1.fpOk hb' (I1.hok.fresh hb')
theorem for_enum {l : Addr} {xs : List V} {g : TG} {tb : TS} {D : Ends} {σ : St} {H : Hp} (Pv : Nat → St → Hp → Prop) (h0 : Pv 0 σ H) (hl : ∀ i σ H, i ≤ xs.length → Pv i σ H → Rd H l (.lst xs))
    (hs : ∀ i x T σ H, xs[i]? = some x → Pv i σ H → H T = none → g (.ref T) σ (upd H T (.tup [.int i, x])) fun σ2 H2 => tb { D with nx := Pv (i + 1), ct := Pv (i + 1), bk := D.nx } σ2 H2) (hd : ∀ σ H, Pv xs.length σ H → D.nx σ H) :
    ∃ W : Nat → Nat → St → Hp → Prop, (∃ m, W 0 m σ H) ∧ ∀ i m σ H, W i m σ H →
      ((Ite l xs).stop i H ∧ D.nx σ H) ∨ ((Ite l xs).go i H ∧ ∃ N : St → Hp → Prop, (∀ σ' H', N σ' H' → ∃ m', m' < m ∧ W (i + 1) m' σ' H') ∧ ∀ x H', (Ite l xs).yld i H x H' → g x σ H' fun σ2 H2 => tb { D with nx := N, ct := N, bk := D.nx } σ2 H2) := by
  refine ⟨fun i m σ H => m = xs.length - i ∧ i ≤ xs.length ∧ Pv i σ H, ⟨xs.length, by simp, Nat.zero_le _, h0⟩, ?_⟩
  rintro i m σ H ⟨rfl, hi, p⟩
  have q := hl i σ H hi p
  by_cases hlt : i < xs.length
  · refine .inr ⟨⟨q, hlt⟩, Pv (i + 1), fun σ' H' p' => ⟨xs.length - (i + 1), by omega, rfl, hlt, p'⟩, fun x H' y => ?_⟩
    obtain ⟨T, z, hT, rfl, rfl, y⟩ := y
    exact hs i z T σ _ y p hT
  · have e : i = xs.length := by omega
    subst e
    exact .inl ⟨⟨q, Nat.le_refl _⟩, hd σ H p⟩
end L2
namespace L2
open PySem PySem.Spec PyProof.Rows
section
variable (P : Program) (w : World) (K : PySem.W.Frag) (mg : Str → Option Value) (base : Heap)
def Def (x : Str) (st : Stmt) (ps : List Str) : Prop := ∃ f fd, Fun K x x st f fd ∧ mg x = some (.ref f) ∧ Binds K fd ps []
def Own (CX : CXT) (k : Nat) (x : Str) (ps : List Str) (sp : Sp) : Prop := ∃ f fd, FnOk P w K mg base CX k f fd ps sp ∧ mg x = some (.ref f) ∧ PySem.W.keepIn K (.ref f) = true ∧ Binds K fd ps []
def DefM (C : Addr) (m qual : Str) (st : Stmt) (ps : List Str) : Prop := ∃ f fd, Fun K m qual st f fd ∧ Meth K C m f ∧ Binds K fd ps []
def OwnM (CX : CXT) (k : Nat) (C : Addr) (m : Str) (ps : List Str) (sp : Sp) : Prop := ∃ f fd, FnOk P w K mg base CX k f fd ps sp ∧ Meth K C m f ∧ Binds K fd ps []
def DefC (C : Addr) (x qual : Str) (st : Stmt) (ps : List Str) : Prop := ∃ f fd, Fun K "__init__" qual st f fd ∧ Mk K C f ∧ mg x = some (.ref C) ∧ Binds K fd ps []
def OwnC (CX : CXT) (k : Nat) (C : Addr) (x : Str) (ps : List Str) (sp : Sp) : Prop := ∃ f fd, FnOk P w K mg base CX k f fd ps sp ∧ Mk K C f ∧ mg x = some (.ref C) ∧ Binds K fd ps []
end
section
variable {P : Program} {w : World} {K : PySem.W.Frag} {mg : Str → Option Value} {base : Heap} {CX : CXT} {k : Nat} {C : Addr} {x m qual : Str} {st : Stmt} {ps : List Str} {sp : Sp}
theorem Def.own (D : Def K mg x st ps) (h : ∀ f fd, Fun K x x st f fd → FnOk P w K mg base CX k f fd ps sp) : Own P w K mg base CX k x ps sp := let ⟨f, fd, F, hm, hb⟩ := D; ⟨f, fd, h f fd F, hm, F.kp, hb⟩
theorem DefM.own (D : DefM K C m qual st ps) (h : ∀ f fd, Fun K m qual st f fd → FnOk P w K mg base CX k f fd ps sp) : OwnM P w K mg base CX k C m ps sp := let ⟨f, fd, F, hm, hb⟩ := D; ⟨f, fd, h f fd F, hm, hb⟩
theorem DefC.own (D : DefC K mg C x qual st ps) (h : ∀ f fd, Fun K "__init__" qual st f fd → FnOk P w K mg base CX k f fd ps sp) : OwnC P w K mg base CX k C x ps sp := let ⟨f, fd, F, hm, hg, hb⟩ := D; ⟨f, fd, h f fd F, hm, hg, hb⟩
end
section
variable {X : Cx} {CX : CXT} {k : Nat} {C : Addr} {ps : List Str} {sp : Sp} {E : XK} {x m : Str} {p pos apos : Pos} {e o : Expr} {es : List Expr} {ta : TE} {t : TA}
theorem pe_own (O : Own X.prog X.w X.K X.mg X.base CX k x ps sp) (hr : Room k X.A) (hg : Gl X x) (hx : Passes CX X E) (ha : PA X (e :: es) t) (hdb : (x == ("__debug__" : Str)) = false := by decide)
    (he : starEach (e :: es) X.env = (false, eval e X.env) :: starEach es X.env := by rfl) (hpl : (backTo pos (starEach es X.env)).any (·.1) = false := by rfl) : PE X (.Call (.Name x p) (e :: es) [] pos) (tCall sp [] E t) := by
  obtain ⟨f, fd, F, hm, hk, hb⟩ := O
  exact pe_call F hr hg hm hk hb .nil hx ha hdb he hpl
theorem pe_ownM {pl : Sem Bool} (he : PE X o ta) (c : Cls X.K C) (O : OwnM X.prog X.w X.K X.mg X.base CX k C m ps sp) (hr : Room k X.A) (hx : Passes CX X E) (ha : PA X (e :: es) t)
    (hst : starEach (e :: es) X.env = (false, eval e X.env) :: starEach es X.env := by rfl) (hpl : (backTo pos (starEach es X.env)).any (·.1) = false := by rfl)
    (ht : eval (.Call (.Attribute o m apos) (e :: es) [] pos) X.env = (do
      let ov ← eval o X.env
      standAt apos.atName
      let (f, first) ← holding [ov] (getMethod ov m pl)
      callWith pos f first (backTo pos (starEach (e :: es) X.env)) (backToKw pos (keywordEach [] X.env))) := by rfl) :
    PE X (.Call (.Attribute o m apos) (e :: es) [] pos) (tMeth C m sp [] E ta t) := by
  obtain ⟨f, fd, F, hm, hb⟩ := O
  exact pe_meth he c hm F hr hb .nil hx ha hst hpl ht
theorem pe_ownM0 {pl : Sem Bool} (he : PE X o ta) (c : Cls X.K C) (O : OwnM X.prog X.w X.K X.mg X.base CX k C m ps sp) (hr : Room k X.A) (hx : Passes CX X E)
    (ht : eval (.Call (.Attribute o m apos) [] [] pos) X.env = (do
      let ov ← eval o X.env
      standAt apos.atName
      let (f, first) ← holding [ov] (getMethod ov m pl)
      callWith pos f first (backTo pos (starEach [] X.env)) (backToKw pos (keywordEach [] X.env))) := by rfl) :
    PE X (.Call (.Attribute o m apos) [] [] pos) (tMeth C m sp [] E ta tNil) := by
  obtain ⟨f, fd, F, hm, hb⟩ := O
  exact pe_meth0 he c hm F hr hb .nil hx ht
theorem pe_ownC (O : OwnC X.prog X.w X.K X.mg X.base CX k C x ps sp) (hr : Room (k + 1) X.A) (hg : Gl X x) (hx : Passes CX X E) (ha : PA X (e :: es) t) (hdb : (x == ("__debug__" : Str)) = false := by decide)
    (he : starEach (e :: es) X.env = (false, eval e X.env) :: starEach es X.env := by rfl) (hpl : (backTo pos (starEach es X.env)).any (·.1) = false := by rfl) : PE X (.Call (.Name x p) (e :: es) [] pos) (tMake C sp [] E t) := by
  obtain ⟨f, fd, F, M, hm, hb⟩ := O
  exact pe_make M F hr hg hm hb .nil hx ha hdb he hpl
end
end L2
namespace L2
open PySem PySem.Spec PyProof.Rows
theorem Paired.get {α β : Type} {F : α → β → Prop} : ∀ {l₁ : List α} {l₂ : List β} {i : Nat} {x : α}, Paired F l₁ l₂ → l₁[i]? = some x → ∃ y, l₂[i]? = some y ∧ F x y
  | _, _, _, _, .nil, e => by simp at e
  | _, _, 0, _, .cons r _, e => by simp at e; subst e; exact ⟨_, rfl, r⟩
  | _, _, i + 1, x, .cons _ t, e => by
    obtain ⟨u, h1, h2⟩ := Paired.get (i := i) (x := x) t (by simpa using e)
    exact ⟨u, by simpa using h1, h2⟩
theorem Paired.mem {α β : Type} {F : α → β → Prop} : ∀ {l₁ : List α} {l₂ : List β} {y : β}, Paired F l₁ l₂ → y ∈ l₂ → ∃ x, x ∈ l₁ ∧ F x y
  | _, _, _, .nil, e => nomatch e
  | _, _, y, .cons (a := a) r t, e => by
    rcases List.mem_cons.mp e with rfl | e
    · exact ⟨a, List.mem_cons_self, r⟩
    · obtain ⟨x, h1, h2⟩ := Paired.mem t e
      exact ⟨x, List.mem_cons_of_mem _ h1, h2⟩
theorem Paired.inj {α β : Type} {F : α → β → Prop} (f : ∀ x a b, F x a → F x b → a = b) : ∀ {l : List α} {as bs : List β}, Paired F l as → Paired F l bs → as = bs
  | _, _, _, .nil, .nil => rfl
  | _, _, _, .cons r t, .cons r' t' => by rw [f _ _ _ r r', Paired.inj f t t']
theorem Paired.of_map {α β : Type} {F : α → β → Prop} {f : β → α} : ∀ (l : List β), (∀ b ∈ l, F (f b) b) → Paired F (l.map f) l
  | [], _ => .nil
  | b :: r, h => .cons (h b List.mem_cons_self) (Paired.of_map r fun x hx => h x (List.mem_cons_of_mem _ hx))
structure EqK (X : Cx) (k : Nat) {α : Type} [DecidableEq α] (En : Hp → V → α → Prop) : Prop where
  eq : ∀ (pins : List (Addr × Obj)) (s : Shared) (σ : St) (H : Hp) (A : Around) (x y : V) (a b : α) (u v : Value), Inv X pins σ H s → A.units + k < cLine → En H x a → En H y b → RelV x u → RelV y v → SeqAt.EqAt A s u v (decide (a = b))
  inj : ∀ (pins : List (Addr × Obj)) (s : Shared) (σ : St) (H : Hp) (x : V) (a b : α), Inv X pins σ H s → En H x a → En H x b → a = b
def enI : Hp → V → Int → Prop := fun _ x i => x = .int i
def enL {α : Type} (K : PySem.W.Frag) (En : Hp → V → α → Prop) : Hp → V → List α → Prop := fun H x as => ∃ p xs, x = .ref p ∧ SqL K H p xs ∧ Paired (En H) xs as
def enT {α : Type} (K : PySem.W.Frag) (En : Hp → V → α → Prop) : Hp → V → List α → Prop := fun H x as => ∃ p xs, x = .ref p ∧ SqT K H p xs ∧ Paired (En H) xs as
theorem enI_map (H : Hp) (ns : List Int) : Paired (enI H) (ns.map V.int) ns := Paired.of_map ns fun _ _ => rfl
theorem paired_ints {H : Hp} : ∀ {xs : List V} {ns : List Int}, Paired (enI H) xs ns → xs = ns.map V.int
  | _, _, .nil => rfl
  | _, _, .cons r t => by rw [paired_ints t]; cases r; rfl
theorem enL_ints {K : PySem.W.Frag} {H : Hp} {p : Addr} {ns : List Int} (h : SqL K H p (ns.map V.int)) : enL K enI H (.ref p) ns := ⟨p, _, rfl, h, enI_map H ns⟩
theorem enT_ints {K : PySem.W.Frag} {H : Hp} {p : Addr} {ns : List Int} (h : SqT K H p (ns.map V.int)) : enT K enI H (.ref p) ns := ⟨p, _, rfl, h, enI_map H ns⟩
theorem all_get {α : Type} [DecidableEq α] {as bs : List α} (hl : as.length = bs.length) : ((List.range as.length).all fun j => decide (as[j]? = bs[j]?)) = decide (as = bs) := by
  by_cases h : as = bs
  · subst h; simp
  · rw [decide_eq_false h]
    have : ¬ ((List.range as.length).all fun j => decide (as[j]? = bs[j]?)) = true := fun z => h (by
      apply List.ext_getElem?
      intro i
      by_cases hi : i < as.length
      · exact of_decide_eq_true (List.all_eq_true.mp z i (List.mem_range.mpr hi))
      · rw [List.getElem?_eq_none (by omega), List.getElem?_eq_none (by omega)])
    simpa using this
theorem dec_of {p : Prop} [Decidable p] {b : Bool} (h : b = true ↔ p) : decide p = b := by
  cases b with
  | true => exact decide_eq_true (h.mp rfl)
  | false => exact decide_eq_false fun z => nomatch h.mpr z
theorem ndec_of {p : Prop} [Decidable p] {b : Bool} (h : b = true ↔ ¬ p) : (!decide p) = b := by
  cases b with
  | true => rw [decide_eq_false (h.mp rfl)]; rfl
  | false =>
    have : p := Classical.not_not.mp fun z => nomatch h.mpr z
    rw [decide_eq_true this]; rfl
section
variable {X : Cx} {k : Nat} {α : Type} [DecidableEq α] {En : Hp → V → α → Prop} {pins : List (Addr × Obj)} {s : Shared} {σ : St} {H : Hp} {A : Around}
theorem eqk_int : EqK X 0 enI where
  eq := fun pins s σ H A x y a b u v I _ ha hb ru rv => by
    cases ha
    cases hb
    exact eqAt_V (A := A) (s := s) ru rv rfl rfl
  inj := fun pins s σ H x a b _ ha hb => by
    cases ha
    injection hb
theorem items_eq (E : EqK X k En) (I : Inv X pins σ H s) (hu : A.units + (k + 1) < cLine) {xs ys : List V} {as bs : List α} {its jts : List Value} (r : Vals xs its) (r' : Vals ys jts) (ha : Paired (En H) xs as) (hb : Paired (En H) ys bs) :
    ∀ j (h1 : j < its.toArray.size) (h2 : j < jts.toArray.size), SeqAt.EqAt A.in1 s its.toArray[j] jts.toArray[j] (decide (as[j]? = bs[j]?)) := fun j h1 h2 => by
  have l1 := r.length
  have l2 := r'.length
  have h1' : j < xs.length := by simpa [l1] using h1
  have h2' : j < ys.length := by simpa [l2] using h2
  have e1 : xs[j]? = some xs[j] := by simp [h1']
  have e2 : ys[j]? = some ys[j] := by simp [h2']
  obtain ⟨u, q1, r1⟩ := Vals.get r e1
  obtain ⟨v, q2, r2⟩ := Vals.get r' e2
  obtain ⟨a, p1, f1⟩ := Paired.get ha e1
  obtain ⟨b, p2, f2⟩ := Paired.get hb e2
  have g1 : its.toArray[j] = u := by
    have : its[j]? = some its.toArray[j] := by simp at h1; simp [h1]
    rw [q1] at this; exact (Option.some.inj this).symm
  have g2 : jts.toArray[j] = v := by
    have : jts[j]? = some jts.toArray[j] := by simp at h2; simp [h2]
    rw [q2] at this; exact (Option.some.inj this).symm
  rw [g1, g2, p1, p2]
  have := E.eq pins s σ H A.in1 _ _ a b u v I (by simp only [Around.in1_units]; omega) f1 f2 r1 r2
  have ee : decide (some a = some b) = decide (a = b) := by
    by_cases z : a = b
    · simp [z]
    · simp [z]
  rw [ee]; exact this
theorem rc_lists (E : EqK X k En) (I : Inv X pins σ H s) (hu : A.units + (k + 1) < cLine) {p q : Addr} {xs ys : List V} {as bs : List α} (hx : SqL X.K H p xs) (ha : Paired (En H) xs as) (hy : SqL X.K H q ys) (hb : Paired (En H) ys bs) :
    SeqAt.RcAt A s (.ref p) (.ref q) (decide (as = bs)) ∧ SeqAt.RcNeAt A s (.ref p) (.ref q) (!decide (as = bs)) := by
  obtain ⟨its, r, pl, _⟩ := I.list hx
  obtain ⟨jts, r', pl', _⟩ := I.list hy
  have l1 := r.length
  have l2 := r'.length
  have l3 := Paired.length ha
  have l4 := Paired.length hb
  by_cases hl : as.length = bs.length
  · have hsz : its.toArray.size = jts.toArray.size := by simp; omega
    have it := items_eq E I hu r r' ha hb
    have e : ((List.range its.toArray.size).all fun j => decide (as[j]? = bs[j]?)) = decide (as = bs) := by
      rw [show its.toArray.size = as.length by simp; omega]
      exact all_get hl
    have a1 := SeqAt.RcAt.lists (A := A) pl.isList pl'.isList hsz (by omega) it
    have a2 := SeqAt.RcNeAt.lists (A := A) pl.isList pl'.isList hsz (by omega) it
    rw [e] at a1 a2
    exact ⟨a1, a2⟩
  · have hsz : (its.toArray.size != jts.toArray.size) = true := by simp; omega
    have hne : ¬ as = bs := fun z => hl (by rw [z])
    rw [decide_eq_false hne]
    exact ⟨SeqAt.RcAt.lists_lengths pl.isList pl'.isList hsz (by omega), SeqAt.RcNeAt.lists_lengths pl.isList pl'.isList hsz (by omega)⟩
theorem rc_tuples (E : EqK X k En) (I : Inv X pins σ H s) (hu : A.units + (k + 1) < cLine) {p q : Addr} {xs ys : List V} {as bs : List α} (hx : SqT X.K H p xs) (ha : Paired (En H) xs as) (hy : SqT X.K H q ys) (hb : Paired (En H) ys bs) :
    SeqAt.RcAt A s (.ref p) (.ref q) (decide (as = bs)) := by
  obtain ⟨its, r, pl, _⟩ := I.tuple hx
  obtain ⟨jts, r', pl', _⟩ := I.tuple hy
  have l1 := r.length
  have l2 := r'.length
  have l3 := Paired.length ha
  have l4 := Paired.length hb
  have it := items_eq E I hu r r' ha hb
  have a1 := SeqAt.RcAt.tuples (A := A) pl pl' (by omega) it
  have e : ((List.range (min its.toArray.size jts.toArray.size)).all (fun j => decide (as[j]? = bs[j]?)) && its.toArray.size == jts.toArray.size) = decide (as = bs) := by
    by_cases hl : as.length = bs.length
    · rw [show min its.toArray.size jts.toArray.size = as.length by simp; omega, all_get hl]
      have : (its.toArray.size == jts.toArray.size) = true := by simp; omega
      rw [this, Bool.and_true]
    · have hne : ¬ as = bs := fun z => hl (by rw [z])
      have : (its.toArray.size == jts.toArray.size) = false := by simp; omega
      rw [this, Bool.and_false, decide_eq_false hne]
  rw [e] at a1
  exact a1
theorem eqk_list (E : EqK X k En) : EqK X (k + 1) (enL X.K En) where
  eq := fun pins s σ H A x y a b u v I hu ha hb ru rv => by
    obtain ⟨p, xs, rfl, hx, pa⟩ := ha
    obtain ⟨q, ys, rfl, hy, pb⟩ := hb
    cases ru
    cases rv
    by_cases e : p = q
    · subst e
      have := I.list_inj hx hy
      subst this
      have := Paired.inj (fun x a b h1 h2 => E.inj pins s σ H x a b I h1 h2) pa pb
      subst this
      rw [decide_eq_true rfl]
      exact SeqAt.EqAt.same _
    · exact SeqAt.EqAt.of_refs e (rc_lists E I hu hx pa hy pb).1
  inj := fun pins s σ H x a b I ha hb => by
    obtain ⟨p, xs, rfl, hx, pa⟩ := ha
    obtain ⟨q, ys, e, hy, pb⟩ := hb
    cases e
    have := I.list_inj hx hy
    subst this
    exact Paired.inj (fun x a b h1 h2 => E.inj pins s σ H x a b I h1 h2) pa pb
theorem eqk_tup (E : EqK X k En) : EqK X (k + 1) (enT X.K En) where
  eq := fun pins s σ H A x y a b u v I hu ha hb ru rv => by
    obtain ⟨p, xs, rfl, hx, pa⟩ := ha
    obtain ⟨q, ys, rfl, hy, pb⟩ := hb
    cases ru
    cases rv
    by_cases e : p = q
    · subst e
      have := I.tuple_inj hx hy
      subst this
      have := Paired.inj (fun x a b h1 h2 => E.inj pins s σ H x a b I h1 h2) pa pb
      subst this
      rw [decide_eq_true rfl]
      exact SeqAt.EqAt.same _
    · exact SeqAt.EqAt.of_refs e (rc_tuples E I hu hx pa hy pb)
  inj := fun pins s σ H x a b I ha hb => by
    obtain ⟨p, xs, rfl, hx, pa⟩ := ha
    obtain ⟨q, ys, e, hy, pb⟩ := hb
    cases e
    have := I.tuple_inj hx hy
    subst this
    exact Paired.inj (fun x a b h1 h2 => E.inj pins s σ H x a b I h1 h2) pa pb
theorem op_neL (E : EqK X k En) (hu : X.A.units + (k + 1) < cLine) : OpR X (compareOp .NotEq) (fun x y H Q => ∃ as bs b, enL X.K En H x as ∧ enL X.K En H y bs ∧ (b = true ↔ ¬ as = bs) ∧ Q (.bl b) H) := by
  intro pins s σ H x y v u Q I rx ry h
  obtain ⟨as, bs, b, ⟨p, xs, rfl, hx, pa⟩, ⟨q, ys, rfl, hy, pb⟩, hb, hq⟩ := h
  cases rx
  cases ry
  rw [← ndec_of hb] at hq
  exact EqBoolInt.of_rcne (rc_lists E I hu hx pa hy pb).2 ⟨.bl _, H, I, rfl, hq⟩
theorem in_items (E : EqK X k En) (I : Inv X pins σ H s) (hu : A.units + (k + 1) < cLine) {x : V} {v : Value} {a : α} {xs : List V} {its : List Value} {as : List α} (rx : RelV x v) (ha : En H x a) (r : Vals xs its) (pa : Paired (En H) xs as) :
    ∃ e : Value → Bool, (∀ y, y ∈ its.toArray → SeqAt.EqAt A.in1 s y v (e y)) ∧ its.toArray.any e = decide (a ∈ as) := by
  have ex : ∀ u ∈ its, ∃ y b, RelV y u ∧ En H y b := fun u hu' => by
    obtain ⟨i, hi⟩ := List.mem_iff_getElem?.mp hu'
    have hlt : i < xs.length := by have := (List.getElem?_eq_some_iff.mp hi).1; have := r.length; omega
    have e1 : xs[i]? = some xs[i] := by simp [hlt]
    obtain ⟨u', q1, r1⟩ := Vals.get r e1
    obtain ⟨b, _, f1⟩ := Paired.get pa e1
    rw [hi] at q1; cases q1
    exact ⟨_, b, r1, f1⟩
  have uni : ∀ u y b y' b', RelV y u → En H y b → RelV y' u → En H y' b' → b = b' := fun u y b y' b' r1 f1 r2 f2 => by
    have := r1.inj r2
    subst this
    exact E.inj pins s σ H y b b' I f1 f2
  refine ⟨fun u => @decide (∃ y b, RelV y u ∧ En H y b ∧ b = a) (Classical.propDecidable _), fun u hu' => ?_, ?_⟩
  · obtain ⟨y, b, r1, f1⟩ := ex u (by simpa using hu')
    have := E.eq pins s σ H A.in1 y x b a u v I (by simp only [Around.in1_units]; omega) f1 ha r1 rx
    have ee : @decide (∃ y b, RelV y u ∧ En H y b ∧ b = a) (Classical.propDecidable _) = decide (b = a) := by
      by_cases z : b = a
      · rw [decide_eq_true z]
        exact @decide_eq_true _ (Classical.propDecidable _) ⟨y, b, r1, f1, z⟩
      · rw [decide_eq_false z]
        exact @decide_eq_false _ (Classical.propDecidable _) fun ⟨y', b', r2, f2, z'⟩ => z (by rw [uni u y b y' b' r1 f1 r2 f2]; exact z')
    dsimp only
    rw [ee]; exact this
  · by_cases z : a ∈ as
    · rw [decide_eq_true z]
      obtain ⟨y, hy, f⟩ := Paired.mem pa z
      obtain ⟨i, hi⟩ := List.mem_iff_getElem?.mp hy
      obtain ⟨u, q1, r1⟩ := Vals.get r hi
      have : its.any (fun u => @decide (∃ y b, RelV y u ∧ En H y b ∧ b = a) (Classical.propDecidable _)) = true :=
        List.any_eq_true.mpr ⟨u, List.mem_of_getElem? q1, @decide_eq_true _ (Classical.propDecidable _) ⟨y, a, r1, f, rfl⟩⟩
      simpa using this
    · rw [decide_eq_false z]
      have : its.any (fun u => @decide (∃ y b, RelV y u ∧ En H y b ∧ b = a) (Classical.propDecidable _)) = false := by
        rw [List.any_eq_false]
        intro u hu' w
        obtain ⟨y', b', r2, f2, e⟩ := @of_decide_eq_true _ (Classical.propDecidable _) w
        obtain ⟨i, hi⟩ := List.mem_iff_getElem?.mp hu'
        have hlt : i < xs.length := by have := (List.getElem?_eq_some_iff.mp hi).1; have := r.length; omega
        have e1 : xs[i]? = some xs[i] := by simp [hlt]
        obtain ⟨u', q1, r1⟩ := Vals.get r e1
        obtain ⟨b, p1, f1⟩ := Paired.get pa e1
        rw [hi] at q1; cases q1
        have := uni u _ b y' b' r1 f1 r2 f2
        subst this e
        exact z (List.mem_of_getElem? p1)
      simpa using this
theorem op_inL (E : EqK X k En) (hu : X.A.units + (k + 1) < cLine) : OpR X (compareOp .In) (fun x y H Q => ∃ a as b, En H x a ∧ enL X.K En H y as ∧ (b = true ↔ a ∈ as) ∧ Q (.bl b) H) := by
  intro pins s σ H x y v u Q I rx ry h
  obtain ⟨a, as, b, ha, ⟨q, ys, rfl, hy, pb⟩, hb, hq⟩ := h
  cases ry
  rw [← dec_of hb] at hq
  obtain ⟨its, r, pl, _⟩ := I.list hy
  obtain ⟨e, e1, e2⟩ := in_items E I hu rx ha r pb
  exact SeqAt.in_listAt e pl.isList e1 ⟨.bl _, H, I, rfl, by rw [e2]; exact hq⟩
end
end L2
namespace L2
open PySem PySem.Spec PyProof.Rows
section
variable {X : Cx} {a b : Expr} {ta tb : TE} {pos : Pos}
theorem plain_lt {h : Heap} {p : Addr} {its : Array Value} (pl : PlainL h p its) : p < h.objs.size := by
  obtain ⟨o, n, e, _⟩ := pl
  exact Heap.lt_size e
theorem truth_bools {A : Around} {bs : List Bool} {its : List Value} (r : Vals (bs.map V.bl) its) : TruthOf X.prog X.w A (fun i v => its.toArray[i]? = some v) (fun i => bs.getD i false) := by
  intro i v s Q E hv hQ
  have hv' : its[i]? = some v := by simpa using hv
  have hlt : i < bs.length := by
    have := (List.getElem?_eq_some_iff.mp hv').1
    have := r.length
    simp at this; omega
  have e1 : (bs.map V.bl)[i]? = some (V.bl bs[i]) := by simp [hlt]
  obtain ⟨u, q1, r1⟩ := Vals.get r e1
  rw [hv'] at q1; cases q1
  cases r1
  refine wpAny_truthy_bool ?_
  have : bs.getD i false = bs[i] := by simp [List.getD, hlt]
  rw [← this]
  exact hQ
theorem range_any (bs : List Bool) : ((List.range bs.length).any fun i => bs.getD i false) = bs.any id := by
  have e : bs = (List.range bs.length).map fun i => bs.getD i false := by
    apply List.ext_getElem
    · simp
    · intro i h1 h2
      simp [h1]
  conv => rhs; rw [e, List.any_map]
  rfl
theorem call_sum (hc : X.calm = true) : CallR X (.builtin "sum") (fun xs H Q => ∃ (p : Addr) (ns : List Int), xs = [.ref p] ∧ SqL X.K H p (ns.map V.int) ∧ Q (.int ns.sum) H) := by
  intro pins s σ H xs us Q I r h
  obtain ⟨p, ns, rfl, hp, q⟩ := h
  obtain ⟨u, rfl, ru⟩ := vals1 r
  cases ru
  obtain ⟨its, rv, pl, hz⟩ := I.list hp
  have hi : IntsAre its ns := intsAre_of rv
  obtain ⟨xs, e⟩ := hi.allInts.items
  have hl := pl.isList
  rw [e] at hl
  refine sum_intListG (I.ok.hd hc) hl fun h' tk t' hk => ?_
  have e2 : preSum (numAt xs) xs.size = ns.sum := by
    rw [preSum_eq, List.take_of_length_le (by simp), ← nums_intItems, ← e]
    exact congrArg List.sum hi.numsOf
  rw [e2]
  exact ⟨.int _, H, I.kept hk, ⟨t', rfl⟩, q⟩
def stepL {α : Type} (xs : List α) (k : Int) : List α := (sliceRange (sliceBounds none none (some k) xs.length).1 (sliceBounds none none (some k) xs.length).2.1 (sliceBounds none none (some k) xs.length).2.2).filterMap (xs[·]?)
theorem vals_pick {xs : List V} {its : List Value} (r : Vals xs its) : ∀ l : List Nat, Vals (l.filterMap (xs[·]?)) (l.filterMap (its[·]?))
  | [] => .nil
  | i :: l => by
    cases e : xs[i]? with
    | none =>
      rw [List.filterMap_cons_none e, List.filterMap_cons_none (r.none_of e)]
      exact vals_pick r l
    | some x =>
      obtain ⟨u, h1, h2⟩ := Vals.get r e
      rw [List.filterMap_cons_some e, List.filterMap_cons_some h1]
      exact .cons h2 (vals_pick r l)
theorem stepL_length {α : Type} (xs : List α) (k : Int) (hk : k ≠ 0) : (stepL xs k).length ≤ xs.length := by
  refine Nat.le_trans (List.length_filterMap_le _ _) (sliceRange_length_le _ _ _ _ ?_ ?_)
  · intro h
    have h' : k > 0 := h
    simp [sliceBounds, h']
  · intro h
    have h' : ¬ k > 0 := h
    simp [sliceBounds, h']
theorem stepL_map {α β : Type} (f : α → β) (xs : List α) (k : Int) : stepL (xs.map f) k = (stepL xs k).map f := by
  unfold stepL
  rw [List.length_map, List.map_filterMap]
  congr 1
  funext i
  rw [List.getElem?_map]
def tStep (K : PySem.W.Frag) (te ts : TE) : TE := fun σ H Q => te σ H fun x H1 => ts σ H1 fun y H2 => ∃ p xs k, x = .ref p ∧ y = .int k ∧ k ≠ 0 ∧ SqL K H2 p xs ∧ ∀ D, H2 D = none → Q (.ref D) (upd H2 D (.lst (stepL xs k)))
theorem pe_step {st : Expr} {ts : TE} {p2 : Pos} (he : PE X a ta) (hst : PE X st ts) : PE X (.Subscript a (.Slice none none (some st) p2) pos) (tStep X.K ta ts) := by
  intro pins s σ H Q I h
  refine Subscript_ (thn (he pins s σ H _ I h) fun v s1 ⟨x, H1, I1, r1, q1⟩ => ?_)
  refine wpAny_Slice ?_
  rw [evalPart_none]
  refine wpAny_pure ?_
  refine wpAny_pure ?_
  rw [evalPart_some]
  refine thn (hst pins s1 σ H1 _ I1 q1) fun vk s2 ⟨y, H2, I2, r2, p, xs, k, ex, ey, hk, hx, q⟩ => ?_
  subst ex ey
  cases r1
  obtain ⟨tk, rfl⟩ := r2
  have I4 : Inv X pins σ H2 { s2 with heap := s2.heap.push { cls := .type "slice", data := .fields #[.none, .none, .int k tk] } } := I2.kept (t' := s2.toks) fun b ob q => Heap.get?_push_of_some _ q
  obtain ⟨its, r, ht, hz⟩ := I4.list hx
  have hlen := r.length
  show wpAny (model X.prog X.w) X.A (subscriptTail a (.Slice none none (some st) p2) (.ref p) (.ref s2.heap.objs.size)) (EP X pins σ Q) X.xe { s2 with heap := s2.heap.push { cls := .type "slice", data := .fields #[.none, .none, .int k tk] } }
  refine tail_any (T := "list") ht.isList.typeIs slot_list_getitem.lookup ?_ (by with_unfolding_all rfl)
  refine wpAny_getItem_list_slice ht.isList (Heap.IsSliceOf.new ..) .none .none (.int k tk) (by simpa using hk) ?_ (by rw [List.size_toArray] <;> omega)
  refine ⟨.ref _, _, I4.laid (t' := s2.toks) (o := .lst (stepL xs k)) (fun b ob q => Heap.get?_push_of_some _ q) (Nat.le_refl _) ⟨Nat.le_trans (stepL_length xs k hk) hz, stepL its k, 0, ?_, ?_⟩, rfl, q _ (I4.hok.fresh (Nat.le_refl _))⟩
  · unfold stepL
    rw [hlen]
    exact vals_pick r _
  · rw [Heap.get?_push_size _ rfl]
    unfold slicePick stepL
    simp
end
end L2
namespace L2
open PySem PySem.Spec PyProof.Rows
def SetO (prog : Program) (w : World) (p : Addr) (ps : List (List Int × Addr)) : HO := .ext fun h => TS.SetS h p (TS.ledW w) (ps.map fun q => (tupleKeyHash (intKind prog w) q.1, Value.ref q.2))
section
variable {X : Cx} {pins : List (Addr × Obj)} {σ : St} {H : Hp} {s : Shared}
theorem items_are_ints {prog : Program} {w : World} : ∀ {ks : List Int} {us : List Value}, Vals (ks.map V.int) us → ItemsAre (intKind prog w) ks us
  | [], _, .nil => .nil
  | k :: r, _, .cons h t => by
    obtain ⟨tk, rfl⟩ := h
    exact .cons (intKind_is _ _ _ _) (items_are_ints t)
theorem Inv.tupKey (I : Inv X pins σ H s) {a : Addr} {ks : List Int} (h : SqT X.K H a (ks.map V.int)) : IsTupleKey (intKind X.prog X.w) s.heap ks a := by
  obtain ⟨its, r, ⟨o, e, c, n, d⟩, _⟩ := I.tuple h
  exact ⟨o, _, n, e, c, d, items_are_ints r⟩
theorem call_setT (hc : X.calm = true) (hu : X.A.units + 8 < cLine) : CallR X (.type "set") (fun xs H Q => ∃ (a : Addr) (qs : List (List Int × Addr)), xs = [.ref a] ∧ SqL X.K H a (qs.map fun q => V.ref q.2) ∧ (∀ q ∈ qs, H q.2 = some (.tup (q.1.map V.int))) ∧ qs.length ≤ 64 ∧
    ∀ p ps, H p = none → ps.length ≤ qs.length → (∀ x ∈ ps, x ∈ qs) → (ps.map (·.1)).Nodup → (∀ q ∈ qs, q.1 ∈ ps.map (·.1)) → Q (.ref p) (upd H p (SetO X.prog X.w p ps))) := by
  intro pins s σ H xs us Q I r h
  obtain ⟨a, qs, rfl, ha, hq, hl, k⟩ := h
  obtain ⟨u, rfl, ru⟩ := vals1 r
  cases ru
  obtain ⟨its, rv, pl, hz⟩ := I.list ha
  have hits : its = qs.map fun q => Value.ref q.2 := by
    have : ∀ (l : List (List Int × Addr)) (us : List Value), Vals (l.map fun q => V.ref q.2) us → us = l.map fun q => Value.ref q.2 := by
      intro l
      induction l with
      | nil => intro us h; cases h; rfl
      | cons q l ih =>
        intro us h
        cases h with
        | cons h1 h2 =>
          cases h1
          rw [ih _ h2]; rfl
    exact this qs its rv
  have hlen := rv.length
  refine TS.call_set_tups (I.ok.hd hc) hu pl.isList (qs := qs) (by simpa using hits) (fun q hq' => I.tupKey (SqT.of (hq q hq'))) (by simp at hlen ⊢; omega) fun h' tk ps hS h1 h2 h3 hk => ?_
  refine ⟨.ref s.heap.objs.size, _, I.laid (t' := tk) (o := SetO X.prog X.w s.heap.objs.size ps) (fun b o e => hk b o (Heap.lt_size e) e) (Nat.le_refl _) ⟨hS.ob, ?_, fun g1 g2 x kk => TS.SetS.keep x kk⟩, rfl, k _ ps I.fresh h1 h2 hS.nd h3⟩
  obtain ⟨_, _, _, e, _⟩ := hS.ob
  exact ⟨_, e⟩
theorem call_sortedT (hc : X.calm = true) : CallR X (.builtin "sorted") (fun xs H Q => ∃ (p : Addr) (ps : List (List Int × Addr)), xs = [.ref p] ∧ H p = some (SetO X.prog X.w p ps) ∧ (∀ q ∈ ps, q.1 ≠ [] ∧ H q.2 = some (.tup (q.1.map V.int))) ∧ (ps.map (·.1)).Nodup ∧ ps.length < 64 ∧
    ∀ (D : Addr) (out : List (List Int × Addr)), H D = none → out.Perm ps → Q (.ref D) (upd H D (.lst (out.map fun q => V.ref q.2)))) := by
  intro pins s σ H xs us Q I r h
  obtain ⟨p, ps, rfl, hp, hq, nd, hl, k⟩ := h
  obtain ⟨u, rfl, ru⟩ := vals1 r
  cases ru
  obtain ⟨hS, _, _⟩ := I.hok p _ hp
  refine TS.sorted_set (I.ok.hd hc) ⟨hS, fun q hq' => I.tupKey (SqT.of (hq q hq').2), nd⟩ (fun q hq' => (hq q hq').1) hl fun D h' tk n out po hk hD hg => ?_
  refine ⟨.ref D, _, I.laid (t' := tk) (o := .lst (out.map fun q => V.ref q.2)) hk hD ⟨?_, out.map fun q => Value.ref q.2, n, ?_, hg⟩, rfl, k D out (I.hok.fresh hD) po⟩
  · rw [List.length_map, po.length_eq]
    exact Nat.le_trans (Nat.le_of_lt hl) (by decide)
  · have : ∀ l : List (List Int × Addr), Vals (l.map fun q => V.ref q.2) (l.map fun q => Value.ref q.2) := by
      intro l
      induction l with
      | nil => exact .nil
      | cons q l ih => exact .cons rfl ih
    exact this out
end
end L2
namespace TS
open PySem PySem.W PyProof.Rows PySem.Calls SetTable
section
variable {prog : Program} {w : World} {A : Around} {E : Value → Shared → Prop} {s : Shared}
end
end TS
namespace L2
open PySem PySem.Spec PyProof.Rows
section
variable {X : Cx}
end
end L2
namespace L2
open PySem PyProof.Rows PySem.Spec
section
variable {X : Cx} {tg : Expr}
structure Kin (K : PySem.W.Frag) (C : Addr) : Prop where
  cl : Cls K C
  ha : PySem.W.findIn K (.ref C) "__class__" = some (some (.builtin "object.__class__"))
  hn : PySem.W.specialIn K (.builtin "object.__class__") "__get__" = some (some (.builtin "getset_descriptor.__get__"))
  htk : PySem.W.takesIn K (.builtin "object.__class__") = some true
  hm : PySem.W.mroIn K C (.type "object") = some true
end
end L2
namespace L2
open PySem PyProof.Rows PySem.Spec
section
variable {X : Cx} {K : PySem.W.Frag}
theorem call_isiK (h : X.K = K) : CallR X (.builtin "isinstance") (fun xs H Q => ∃ (x : V) (Tx T : String) (b : Bool), xs = [x, .ty T] ∧ TyV K H x Tx ∧ Isi Tx T b ∧ Q (.bl b) H) := by
  subst h; exact call_isi
theorem call_list_ofK (h : X.K = K) : CallR X (.type "list") (fun xs H Q => ∃ (p : Addr) (ys : List V), xs = [.ref p] ∧ (SqL K H p ys ∨ SqT K H p ys) ∧ ∀ l, H l = none → Q (.ref l) (upd H l (.lst ys))) := by
  subst h; exact call_list_of
end
end L2
namespace L2
open PySem PyProof.Rows PySem.Spec
end L2
namespace L2
open PySem PyProof.Rows PySem.Spec
section
variable {prog : Program} {w : World} {A : Around} {E : Value → Shared → Prop} {s : Shared}
end
end L2
namespace L2
open PySem PySem.Spec PyProof.Rows
theorem Same.seqT {K : PySem.W.Frag} {H H' : Hp} {a : Addr} {xs : List V} (e : Same H H') (h : SqT K H a xs) : SqT K H' a xs := by
  rcases h with (h | ⟨o, h⟩) | h
  · exact .inl (.inl (e _ _ h))
  · exact .inl (.inr ⟨o, e _ _ h⟩)
  · exact .inr h
theorem Same.new {H : Hp} {a : Addr} {o : HO} (h : H a = none) : Same H (upd H a o) := fun b u e => by rw [upd_ne (ne_of_none e h)]; exact e
theorem Same.upd {H H' : Hp} {a : Addr} {o : HO} (s : Same H H') (h : H a = none) : Same H (L2.upd H' a o) := fun b u e => by rw [upd_ne (ne_of_none e h)]; exact s b u e
def Stays {α : Type} (En : Hp → V → α → Prop) : Prop := ∀ (H H' : Hp) (x : V) (a : α), Same H H' → En H x a → En H' x a
theorem stays_int : Stays enI := fun _ _ _ _ _ h => h
theorem stays_list {α : Type} {K : PySem.W.Frag} {En : Hp → V → α → Prop} (s : Stays En) : Stays (enL K En) := fun H H' x as e ⟨p, xs, h1, h2, h3⟩ => ⟨p, xs, h1, e.seq h2, Paired.mapP h3 fun a b r => s H H' a b e r⟩
theorem stays_tup {α : Type} {K : PySem.W.Frag} {En : Hp → V → α → Prop} (s : Stays En) : Stays (enT K En) := fun H H' x as e ⟨p, xs, h1, h2, h3⟩ => ⟨p, xs, h1, e.seqT h2, Paired.mapP h3 fun a b r => s H H' a b e r⟩
abbrev enR (K : PySem.W.Frag) : Hp → V → List Int → Prop := enL K enI
abbrev enP (K : PySem.W.Frag) : Hp → V → List (List Int) → Prop := enL K (enT K enI)
theorem stays_pairs {K : PySem.W.Frag} : Stays (enP K) := stays_list (stays_tup stays_int)
theorem enR.get {K : PySem.W.Frag} {H : Hp} {x : V} {ns : List Int} (h : enR K H x ns) : ∃ p, x = .ref p ∧ SqL K H p (ns.map V.int) := by
  obtain ⟨p, xs, rfl, h2, h3⟩ := h
  rw [paired_ints h3] at h2
  exact ⟨p, rfl, h2⟩
theorem min_if (i j : Int) : (if j < i then j else i) = min i j := by
  split <;> omega
theorem max_if (i j : Int) : (if j > i then j else i) = max i j := by
  split <;> omega
theorem Room.un2 {k : Nat} {A : Around} (r : Room k A) (m : Nat) (h : m ≤ 200) : A.units + m < cLine := by have := r.un; omega
theorem dec_vint (a b : Int) : decide (V.int a = V.int b) = decide (a = b) := by
  by_cases e : a = b
  · subst e; simp
  · rw [decide_eq_false e, decide_eq_false fun z => e (V.int.inj z)]
theorem len_line {n : Nat} (h : n ≤ 100000) : n ≤ sizeLine := Nat.le_trans h (by decide)
theorem pg_own {X : Cx} {N : List Str} {scope : Scope} {cl : List (Str × Addr)} {s : Shared} {H : Hp} {fp : List Addr} {pn : List (Addr × Obj)} {i : Nat} {x : Str} {pos : Pos} (hN : N.Nodup) (hi : N[i]? = some x) (hx : (relabel scope X.env).names.lookup x = some .local) :
    PG (cxComp X N scope cl s H fp pn) (.Name x pos) (gName i) := pg_name hN hi (.inl hx) (.inr hx)
theorem get_int {ns : List Int} {i : Nat} {x : V} (h : (ns.map V.int)[i]? = some x) : ∃ z, ns[i]? = some z ∧ x = .int z := by
  rw [List.getElem?_map] at h
  cases e : ns[i]? with
  | none => rw [e] at h; cases h
  | some z => rw [e] at h; exact ⟨z, rfl, (Option.some.inj h).symm⟩
def tPar3 (i j l : Nat) (ta : TA) : TS := fun D σ H => ta σ H fun vs H1 => ∃ v w z, vs = [v, w, z] ∧ D.nx (((σ.set l (some z)).set j (some w)).set i (some v)) H1
theorem ps_par3 {X : Cx} {i j l : Nat} {x y z : Str} {a b c : Expr} {ta : TA} {px py pz pt pos : Pos} {kt k2 pt2} (hc : X.calm = true) (hN : X.N.Nodup) (hi : X.N[i]? = some x) (hj : X.N[j]? = some y) (hl : X.N[l]? = some z)
    (hx : X.env.scope.names.lookup x = some .local) (hy : X.env.scope.names.lookup y = some .local) (hz : X.env.scope.names.lookup z = some .local) (ha : PA X [a, b, c] ta)
    (hw : swappedStores [.Tuple [.Name x px, .Name y py, .Name z pz] kt pt] (.Tuple [a, b, c] k2 pt2) X.env = pure (some [x, y, z]))
    (hs : swapsWithSole [.Tuple [.Name x px, .Name y py, .Name z pz] kt pt] (.Tuple [a, b, c] k2 pt2) pos.line X.env = pure false := by rfl) :
    PS X (.Assign [.Tuple [.Name x px, .Name y py, .Name z pz] kt pt] (.Tuple [a, b, c] k2 pt2) pos) (tPar3 i j l ta) := by
  intro pins s σ H D I h
  rw [exec_Assign_arm]
  refine wpAny_bind (wpAny_standAt ?_)
  rw [hs]
  refine wpAny_bind (wpAny_pure ?_)
  rw [if_neg (by decide)]
  refine wpAny_bind (Tuple_ (thn (ha _ pins s σ H _ I h) fun us s1 ⟨vs, H1, I1, r1, q1⟩ => ?_))
  obtain ⟨v, w, z', e1, q1⟩ := q1
  subst e1
  obtain ⟨u1, u2, u3, rfl, rv, rw', rz⟩ : ∃ u1 u2 u3, us = [u1, u2, u3] ∧ RelV v u1 ∧ RelV w u2 ∧ RelV z' u3 := by
    cases r1 with
    | cons p q =>
      cases q with
      | cons p' q' =>
        cases q' with
        | cons p'' q'' =>
          cases q''
          exact ⟨_, _, _, rfl, p, p', p''⟩
  refine wpAny_newObj_type ?_ (by show 3 ≤ sizeLine; decide)
  have I2 : Inv X pins σ H1 { s1 with heap := s1.heap.push { cls := .type "tuple", data := .seq [u1, u2, u3].toArray } } := I1.kept (t' := s1.toks) fun b o e => Heap.get?_push_of_some _ e
  rw [hw]
  refine wpAny_bind (wpAny_pure ?_)
  show wpAny (model X.prog X.w) X.A (do rule "assign.swapped-stores"; let items ← unpackItems (.ref s1.heap.objs.size) 3 none; assignInOrder [fun v => bindName X.env z v, fun v => bindName X.env y v, fun v => bindName X.env x v] items.reverse; pure Flow.next) _ _ _
  refine wpAny_bind (wpAny_rule (wpAny_bind (unpackItems_tuple (items := #[u1, u2, u3]) (I.ok.hd hc) (IsTup.new s1.heap _) fun h' hx' => ?_)))
  have I3 := I2.kept (h' := h') (t' := s1.toks) fun b o e => hx' b o (Nat.ne_of_lt (Heap.lt_size e)) e
  show wpAny _ _ (assignInOrder [fun v => bindName X.env z v, fun v => bindName X.env y v, fun v => bindName X.env x v] [u3, u2, u1] >>= fun _ => pure Flow.next) _ _ _
  refine wpAny_bind (assignInOrder_cons (wpAny_bindName (store_ok I3 hN hl (.inl hz) rz (fun s2 I4 => ?_) (.inr hz))))
  refine assignInOrder_cons (wpAny_bindName (store_ok I4 hN hj (.inl hy) rw' (fun s3 I5 => ?_) (.inr hy)))
  refine assignInOrder_cons (wpAny_bindName (store_ok I5 hN hi (.inl hx) rv (fun s4 I6 => assignInOrder_nil (wpAny_pure ?_)) (.inr hx)))
  exact ⟨_, H1, I6, q1⟩
end L2
namespace J
def mind (ps : List (List Int)) (a b : Int) : Bool := decide (a = b) || decide ([min a b, max a b] ∈ ps)
def part (ns : List Int) (one other : Int) : List Int := ns.filter fun z => decide (z = one) || decide (z = other)
theorem mind_self (ps : List (List Int)) (a : Int) : mind ps a a = true := by simp [mind]
theorem mind_comm (ps : List (List Int)) (a b : Int) : mind ps a b = mind ps b a := by
  unfold mind
  rw [show min a b = min b a by omega, show max a b = max b a by omega]
  congr 1
  exact decide_eq_decide.mpr ⟨Eq.symm, Eq.symm⟩
def Sim (ps : List (List Int)) (u v : List Int) : Prop := ∀ c d, mind ps c d = true → part u c d = part v c d
section
variable {ps : List (List Int)} {u v w : List Int} {a k : Int}
theorem Sim.refl : Sim ps u u := fun _ _ _ => rfl
theorem Sim.symm (h : Sim ps u v) : Sim ps v u := fun c d m => (h c d m).symm
theorem Sim.trans (h : Sim ps u v) (g : Sim ps v w) : Sim ps u w := fun c d m => (h c d m).trans (g c d m)
theorem part_app (c d : Int) : part (u ++ v) c d = part u c d ++ part v c d := List.filter_append ..
theorem part_in {c d : Int} (h : a = c ∨ a = d) : part (a :: u) c d = a :: part u c d := by
  unfold part; rw [List.filter_cons_of_pos]; rcases h with rfl | rfl <;> simp
theorem part_out {c d : Int} (h1 : a ≠ c) (h2 : a ≠ d) : part (a :: u) c d = part u c d := by
  unfold part; rw [List.filter_cons_of_neg]; simp [h1, h2]
theorem part_mem {c d x : Int} : x ∈ part u c d ↔ x ∈ u ∧ (x = c ∨ x = d) := by simp [part]
theorem part_none {c d : Int} (h : ∀ x ∈ u, x ≠ c ∧ x ≠ d) : part u c d = [] := by
  rw [List.eq_nil_iff_forall_not_mem]
  intro x hx
  obtain ⟨h1, h2⟩ := part_mem.mp hx
  rcases h2 with z | z
  · exact (h x h1).1 z
  · exact (h x h1).2 z
theorem part_free {c d : Int} (m : mind ps c d = true) (ha : a = c ∨ a = d) (h : ∀ x ∈ u, mind ps a x = false) : part u c d = [] := part_none fun x hx => by
  have hx' := h x hx
  have n1 : x ≠ a := fun z => by rw [z, mind_self] at hx'; cases hx'
  rcases ha with rfl | rfl
  · exact ⟨n1, fun z => by rw [z] at hx'; rw [hx'] at m; cases m⟩
  · exact ⟨fun z => (by rw [z, mind_comm] at hx'; rw [hx'] at m; cases m), n1⟩
theorem sim_move (h : ∀ x ∈ v, mind ps a x = false) : Sim ps (u ++ v ++ a :: w) (u ++ a :: (v ++ w)) := fun c d m => by
  rw [part_app, part_app, part_app]
  by_cases ha : a = c ∨ a = d
  · rw [part_in ha, part_in ha, part_app, part_free m ha h]
    simp
  · have h1 : a ≠ c := fun z => ha (.inl z)
    have h2 : a ≠ d := fun z => ha (.inr z)
    rw [part_out h1 h2, part_out h1 h2, part_app, List.append_assoc]
theorem Sim.cancel (h : Sim ps (w ++ u) (w ++ v)) : Sim ps u v := fun c d m => by
  have := h c d m
  rw [part_app, part_app] at this
  exact List.append_cancel_left this
theorem Sim.nil (h : Sim ps [] v) : v = [] := by
  rw [List.eq_nil_iff_forall_not_mem]
  intro x hx
  have := h x x (mind_self ps x)
  have hm : x ∈ part v x x := part_mem.mpr ⟨hx, .inl rfl⟩
  rw [← this] at hm
  cases hm
theorem Sim.first (h : Sim ps (a :: u) v) : ∃ v1 v2, v = v1 ++ a :: v2 ∧ a ∉ v1 ∧ (∀ x ∈ v1, mind ps a x = false) ∧ Sim ps u (v1 ++ v2) := by
  have hav : a ∈ v := by
    have h1 : a ∈ part v a a := by rw [← h a a (mind_self ps a), part_in (.inl rfl)]; exact List.mem_cons_self
    exact (part_mem.mp h1).1
  obtain ⟨v1, v2, e, hn⟩ := List.eq_append_cons_of_mem hav
  have hf : ∀ x ∈ v1, mind ps a x = false := fun x hx => by
    cases hm : mind ps a x with
    | false => rfl
    | true =>
      have h1 := h a x hm
      rw [part_in (.inl rfl), e, part_app] at h1
      have hx1 : x ∈ part v1 a x := part_mem.mpr ⟨hx, .inr rfl⟩
      cases hp : part v1 a x with
      | nil => rw [hp] at hx1; cases hx1
      | cons y l =>
        rw [hp] at h1
        have ey : a = y := by simpa using (List.cons.inj h1).1
        have : y ∈ part v1 a x := by rw [hp]; exact List.mem_cons_self
        exact absurd (ey ▸ (part_mem.mp this).1) hn
  refine ⟨v1, v2, e, hn, hf, ?_⟩
  have h2 : Sim ps (a :: u) (a :: (v1 ++ v2)) := h.trans (by rw [e]; exact sim_move (u := []) hf)
  exact Sim.cancel (w := [a]) h2
def Least (ps : List (List Int)) (row : List Int) : Prop := ∀ w x y a z, row = w ++ x :: (y ++ a :: z) → (∀ t ∈ x :: y, mind ps a t = false) → x ≤ a
theorem Least.tail {b : Int} (h : Least ps (b :: u)) : Least ps u := fun w x y a z e => h (b :: w) x y a z (by rw [e]; rfl)
theorem Least.pre (h : Least ps (u ++ v)) : Least ps u := fun w x y a z e => h w x y a (z ++ v) (by rw [e]; simp)
theorem Least.nil : Least ps [] := fun w x y a z e => by simp at e
structure Fits (ps : List (List Int)) (k : Int) (A B : List Int) : Prop where
  free : ∀ x ∈ B, mind ps k x = false
  more : ∀ b B', B = b :: B' → k < b
  back : ∀ A1 x A2, A = A1 ++ x :: A2 → (∀ t ∈ x :: A2, mind ps k t = false) → x ≤ k
end
end J
namespace J
def ins (row : List Int) (f : Nat) (k : Int) : List Int := row.take f ++ k :: row.drop f
section
variable {ps : List (List Int)} {row : List Int} {k : Int}
theorem getD_of {l : List Int} {i : Nat} {x : Int} (h : l[i]? = some x) : l.getD i 0 = x := by rw [List.getD_eq_getElem?_getD, h]; rfl
theorem Least.ix (h : Least ps row) {i j : Nat} {x a : Int} (hij : i < j) (hi : row[i]? = some x) (hj : row[j]? = some a) (hf : ∀ t y, i ≤ t → t < j → row[t]? = some y → mind ps a y = false) : x ≤ a := by
  have hjl := (List.getElem?_eq_some_iff.mp hj).1
  have hil := (List.getElem?_eq_some_iff.mp hi).1
  have e1 : row = row.take i ++ x :: row.drop (i + 1) := by
    conv => lhs; rw [← List.take_append_drop i row]
    rw [List.drop_eq_getElem_cons hil]
    have := (List.getElem?_eq_some_iff.mp hi).2
    rw [this]
  have e2 : row.drop (i + 1) = (row.drop (i + 1)).take (j - (i + 1)) ++ a :: row.drop (j + 1) := by
    conv => lhs; rw [← List.take_append_drop (j - (i + 1)) (row.drop (i + 1))]
    rw [List.drop_drop, show i + 1 + (j - (i + 1)) = j by omega, List.drop_eq_getElem_cons hjl]
    have := (List.getElem?_eq_some_iff.mp hj).2
    rw [this]
  refine h (row.take i) x ((row.drop (i + 1)).take (j - (i + 1))) a (row.drop (j + 1)) (by rw [← e2]; exact e1) fun t ht => ?_
  rcases List.mem_cons.mp ht with rfl | ht
  · exact hf i t (Nat.le_refl _) hij hi
  · obtain ⟨n, hn⟩ := List.mem_iff_getElem?.mp ht
    have hnl := (List.getElem?_eq_some_iff.mp hn).1
    rw [List.length_take] at hnl
    rw [List.getElem?_take_of_lt (by omega), List.getElem?_drop] at hn
    exact hf _ t (by omega) (by omega) hn
end
end J
namespace J
section
variable {ps : List (List Int)} {row : List Int} {k : Int}
end
end J
namespace J
def swp (l : List Int) (i : Nat) : List Int := (l.set i (l.getD (i + 1) 0)).set (i + 1) (l.getD i 0)
section
variable {ps : List (List Int)} {l : List Int} {i : Nat}
theorem swp_split (h : i + 1 < l.length) : l = l.take i ++ l.getD i 0 :: l.getD (i + 1) 0 :: l.drop (i + 2) ∧ swp l i = l.take i ++ l.getD (i + 1) 0 :: l.getD i 0 :: l.drop (i + 2) := by
  have e1 : l.getD i 0 = l[i]'(by omega) := getD_of (List.getElem?_eq_getElem (by omega))
  have e2 : l.getD (i + 1) 0 = l[i + 1] := getD_of (List.getElem?_eq_getElem h)
  have hl : l = l.take i ++ l[i]'(by omega) :: l[i + 1] :: l.drop (i + 2) := by
    conv => lhs; rw [← List.take_append_drop i l, List.drop_eq_getElem_cons (by omega : i < l.length), List.drop_eq_getElem_cons h]
  refine ⟨by rw [e1, e2]; exact hl, ?_⟩
  unfold swp
  rw [e1, e2]
  have ht : (l.take i).length = i := by rw [List.length_take]; omega
  generalize l[i]'(by omega) = x at *
  generalize l[i + 1] = y at *
  generalize l.drop (i + 2) = d at *
  generalize hw : l.take i = w at *
  subst hl
  subst ht
  rw [List.set_append_right _ _ (Nat.le_refl _), Nat.sub_self, List.set_append_right _ _ (by omega), show w.length + 1 - w.length = 1 by omega]
  rfl
theorem swp_len (l : List Int) (i : Nat) : (swp l i).length = l.length := by simp [swp]
theorem swp_mem {x : Int} (h : i + 1 < l.length) : x ∈ swp l i ↔ x ∈ l := by
  obtain ⟨e1, e2⟩ := swp_split h
  rw [e2]
  conv => rhs; rw [e1]
  simp only [List.mem_append, List.mem_cons]
  constructor <;> rintro (a | a | a | a) <;> simp [a]
theorem swp_V {β : Type} (f : Int → β) (h : i + 1 < l.length) {x y : Int} (hx : l[i]? = some x) (hy : l[i + 1]? = some y) : ((l.map f).set i (f y)).set (i + 1) (f x) = (swp l i).map f := by
  unfold swp
  rw [getD_of hx, getD_of hy, List.map_set, List.map_set]
end
end J
namespace J
abbrev Lab := List (Nat × Int)
def Rise (L : Lab) : Prop := L.Pairwise fun e f => e.1 < f.1
def pof (L : Lab) (k : Int) : List Nat := (L.filter fun e => decide (e.2 = k)).map Prod.fst
theorem pof_app (L M : Lab) (k : Int) : pof (L ++ M) k = pof L k ++ pof M k := by unfold pof; rw [List.filter_append, List.map_append]
theorem pof_hit (L : Lab) (p : Nat) (k : Int) : pof ((p, k) :: L) k = p :: pof L k := by unfold pof; rw [List.filter_cons_of_pos (by simp), List.map_cons]
theorem pof_mem {L : Lab} {k : Int} {p : Nat} : p ∈ pof L k ↔ (p, k) ∈ L := by
  unfold pof
  constructor
  · intro h
    obtain ⟨e, he, rfl⟩ := List.mem_map.mp h
    obtain ⟨h1, h2⟩ := List.mem_filter.mp he
    have h3 : e.2 = k := of_decide_eq_true h2
    rw [← h3]; exact h1
  · intro h
    exact List.mem_map.mpr ⟨_, List.mem_filter.mpr ⟨h, decide_eq_true rfl⟩, rfl⟩
def run (ps : List (List Int)) : Lab → (Int → Int) → List Int → Prop
  | _, _, [] => True
  | L, lat, k :: u => ∃ (L1 : Lab) (p : Nat) (L2 : Lab), L = L1 ++ (p, k) :: L2 ∧ (∀ e ∈ L1, e.2 ≠ k) ∧ (∀ near, mind ps k near = true → lat near ≤ (p : Int)) ∧ run ps (L1 ++ L2) (fun n => if n = k then (p : Int) else lat n) u
section
variable {ps : List (List Int)}
theorem Rise.drop {L1 L2 : Lab} {e : Nat × Int} (h : Rise (L1 ++ e :: L2)) : Rise (L1 ++ L2) := List.Pairwise.sublist (List.sublist_append_iff.mpr ⟨L1, L2, rfl, List.Sublist.refl _, List.sublist_cons_self _ _⟩) h
theorem Rise.ahead {L1 L2 : Lab} {e f : Nat × Int} (h : Rise (L1 ++ e :: L2)) (hf : f ∈ L1) : f.1 < e.1 := (List.pairwise_append.mp h).2.2 f hf e List.mem_cons_self
theorem Rise.first {L1 L2 : Lab} {p q : Nat} {k : Int} (h : Rise (L1 ++ (p, k) :: L2)) (hn : ∀ e ∈ L1, e.2 ≠ k) (hq : (q, k) ∈ L1 ++ (p, k) :: L2) : p ≤ q := by
  rcases List.mem_append.mp hq with z | z
  · exact absurd rfl (hn _ z)
  · rcases List.mem_cons.mp z with z | z
    · cases z; exact Nat.le_refl _
    · have := (List.pairwise_cons.mp (List.pairwise_append.mp h).2.1).1 _ z
      exact Nat.le_of_lt this
structure Seen (L0 : Lab) (lat : Int → Int) (P : List Int) (L : Lab) : Prop where
  left : L = L0.filter fun e => decide (lat e.2 < (e.1 : Int))
  cnt : ∀ n, P.count n = ((pof L0 n).filter fun (p : Nat) => decide ((p : Int) ≤ lat n)).length
  at_ : ∀ n, 0 ≤ lat n → (lat n).toNat ∈ pof L0 n
theorem Seen.step {L0 L L1 L2 : Lab} {lat : Int → Int} {P : List Int} {k : Int} {p : Nat} (hL0 : Rise L0) (S : Seen L0 lat P L) (e : L = L1 ++ (p, k) :: L2) (hn : ∀ f ∈ L1, f.2 ≠ k) : Seen L0 (fun n => if n = k then (p : Int) else lat n) (P ++ [k]) (L1 ++ L2) := by
  have hLr : Rise L := by rw [S.left]; exact List.Pairwise.filter _ hL0
  have hpL : (p, k) ∈ L := by rw [e]; exact List.mem_append_right _ List.mem_cons_self
  have hp0 : (p, k) ∈ L0 ∧ lat k < (p : Int) := by
    rw [S.left] at hpL
    obtain ⟨h1, h2⟩ := List.mem_filter.mp hpL
    exact ⟨h1, of_decide_eq_true h2⟩
  have hfirst : ∀ q, (q, k) ∈ L → p ≤ q := fun q hq => by rw [e] at hLr hq; exact hLr.first hn hq
  refine ⟨?_, fun n => ?_, fun n h => ?_⟩
  · -- what is left
    have h1 : L0.filter (fun f => decide ((if f.2 = k then (p : Int) else lat f.2) < (f.1 : Int))) = L.filter (fun f => decide (f ≠ (p, k))) := by
      rw [S.left, List.filter_filter]
      apply List.filter_congr
      intro f hf
      obtain ⟨q, j⟩ := f
      by_cases ej : j = k
      · subst ej
        simp only [if_true]
        by_cases hlt : lat j < (q : Int)
        · have hqL : (q, j) ∈ L := by rw [S.left]; exact List.mem_filter.mpr ⟨hf, decide_eq_true hlt⟩
          have := hfirst q hqL
          by_cases eq : q = p
          · subst eq; simp
          · have : p < q := by omega
            simp [eq, hlt]; omega
        · have h2 : ¬ (p : Int) < (q : Int) := by omega
          simp [hlt, h2]
      · have h3 : ¬ (q, j) = (p, k) := fun z => by cases z; exact ej rfl
        simp [ej, h3]
    have ne : ∀ f ∈ L1 ++ L2, f ≠ (p, k) := fun f hf z => by
      subst z
      rw [e] at hLr
      rcases List.mem_append.mp hf with hf | hf
      · exact hn _ hf rfl
      · have := (List.pairwise_cons.mp (List.pairwise_append.mp hLr).2.1).1 _ hf
        exact Nat.lt_irrefl _ this
    rw [h1, e, List.filter_append, List.filter_cons_of_neg (by simp), ← List.filter_append]
    exact (List.filter_eq_self.mpr fun f hf => decide_eq_true (ne f hf)).symm
  · rw [List.count_append]
    by_cases en : n = k
    · subst en
      simp only [if_true, List.count_singleton, beq_self_eq_true]
      rw [S.cnt n]
      -- the places up to p: those up to lat, and p itself
      have hpk : p ∈ pof L0 n := pof_mem.mpr hp0.1
      obtain ⟨A, B, eAB⟩ := List.append_of_mem hp0.1
      have hA : ∀ f ∈ A, f.1 < p := fun f hf => by rw [eAB] at hL0; exact hL0.ahead hf
      have hB : ∀ f ∈ B, p < f.1 := fun f hf => by rw [eAB] at hL0; exact (List.pairwise_cons.mp (List.pairwise_append.mp hL0).2.1).1 f hf
      rw [eAB, pof_app, pof_hit, List.filter_append, List.filter_append]
      have g1 : (pof A n).filter (fun (q : Nat) => decide ((q : Int) ≤ lat n)) = pof A n := List.filter_eq_self.mpr fun q hq => decide_eq_true (by
        have hqA := pof_mem.mp hq
        have hlt := hA _ hqA
        rcases Int.lt_or_le (lat n) (q : Int) with z | z
        · have : (q, n) ∈ L := by rw [S.left]; exact List.mem_filter.mpr ⟨by rw [eAB]; exact List.mem_append_left _ hqA, decide_eq_true z⟩
          have := hfirst q this
          omega
        · exact z)
      have g2 : (pof A n).filter (fun (q : Nat) => decide ((q : Int) ≤ (p : Int))) = pof A n := List.filter_eq_self.mpr fun q hq => decide_eq_true (by have := hA _ (pof_mem.mp hq); omega)
      have g3 : (pof B n).filter (fun (q : Nat) => decide ((q : Int) ≤ lat n)) = [] := List.filter_eq_nil_iff.mpr fun q hq => by have := hB _ (pof_mem.mp hq); simp; omega
      have g4 : (pof B n).filter (fun (q : Nat) => decide ((q : Int) ≤ (p : Int))) = [] := List.filter_eq_nil_iff.mpr fun q hq => by have := hB _ (pof_mem.mp hq); simp; omega
      rw [g1, g2, List.filter_cons_of_neg (by simp; omega), List.filter_cons_of_pos (by simp), g3, g4]
      simp
    · rw [List.count_singleton]
      have : (k == n) = false := by simpa using fun z : k = n => en z.symm
      simp only [this, if_neg en]
      exact S.cnt n
  · by_cases en : n = k
    · subst en
      simp only [if_true] at h ⊢
      exact pof_mem.mpr (by simpa using hp0.1)
    · simp only [if_neg en] at h ⊢
      exact S.at_ n h
end
end J
namespace L2
open PySem PySem.Spec PyProof.Rows PySem.W
abbrev bmVE : List Value := [.type "ValueError", .type "Exception", .type "BaseException", .type "object"]
abbrev excObj (C : Addr) (od : Option Addr) (vs : Array Value) : Obj := { cls := .ref C, dict := od, data := .fields vs }
def rawVs (t : Addr) : Array Value := #[.ref t, .none, .none, .none, .bool false, .none]
def xHeap (h : Heap) (C : Addr) (us : List Value) : Heap := (h.push { cls := .type "tuple", data := .seq us.toArray }).push (excObj C none (rawVs h.objs.size))
theorem xHeap_keeps {h : Heap} {C : Addr} {us : List Value} : ∀ b o, h.get? b = some o → (xHeap h C us).get? b = some o := fun _ _ e => Heap.get?_push_of_some _ (Heap.get?_push_of_some _ e)
theorem xHeap_new {h : Heap} {C : Addr} {us : List Value} : (xHeap h C us).get? (h.objs.size + 1) = some (excObj C none (rawVs h.objs.size)) := by
  unfold xHeap
  have q := Heap.get?_push_size (h.push { cls := .type "tuple", data := .seq us.toArray }) (o := excObj C none (rawVs h.objs.size)) rfl
  rwa [Heap.size_push] at q
section
variable {prog : Program} {w : World} {A : Around} {E : Value → Shared → Prop} {h : Heap} {g : Array GenState} {d : Drawn} {t : Nat} {os : OsState}
variable {nm qn : Str} {C N fI : Addr} {bs bm bmB : List Value} {hdct : Bool} {sn : List Str} {sub : List Value} {ab : Bool} {col : Option Bool} {dd : Option Addr} {k0 k1 k2 k3 k5 : Option Value} {B newId initId : String}
theorem exc_tcall (F : ExcBaseFacts B newId initId bmB) (T : OwnTail h bmB bm) {us : List Value} {Q : Fin → Shared → Prop}
    (hC : h.get? C = some (excClassObj nm qn C N bs bm hdct sn sub ab col dd k0 k1 k2 k3 k5 newId)) (hi : Looks (model prog w) h (typeLookup (.ref C) "__init__") (some (.ref fI)))
    (hb : Looks (model prog w) h (bindSpecial (.ref fI) (.ref (h.objs.size + 1))) (.ref fI, [.ref (h.objs.size + 1)])) (hz : us.length ≤ sizeLine)
    (go : codeAny (model prog w) A (.call (.ref fI) ⟨.ref (h.objs.size + 1) :: us, []⟩) (fun r s' => match r with | .ok (.ret v) => v = .none ∧ Q (.done (.ret (.ref (h.objs.size + 1)))) s' | .ok _ => False | .error e => E e s') ⟨xHeap h C us, g, d, t, os⟩) :
    wpAny (model prog w) A (Builtin.«type.__call__» ⟨.ref C :: us, []⟩) Q E ⟨h, g, d, t, os⟩ := by
  repeat (first | with_reducible refine wpAny_loadPart_at hC ?_ | with_reducible refine wpAny_madeBy_exc hC ?_ | wp_step)
  refine codeAny_call_builtin_code (Code.quiet_builtin _ F.quiet) (wpAny_check_new_subT F T hC (codeAny_exc_new_subT F T hC ?_ hz))
  have hx := xHeap_new (h := h) (C := C) (us := us)
  have hC1 := xHeap_keeps (C := C) (us := us) _ _ hC
  have i1 := hi.keeps (xHeap_keeps (C := C) (us := us))
  have b1 := hb.keeps (xHeap_keeps (C := C) (us := us))
  have t1 : Looks (model prog w) (xHeap h C us) (typeOf (.ref (h.objs.size + 1))) (.ref C) := (Looks.ld hx).andThen .now
  have s1 : Looks (model prog w) (xHeap h C us) (isSubtype (.ref C) (.ref C)) true := fun A Q E s k q => by
    obtain ⟨hh, g', d', t', os'⟩ := s
    refine wpAny_isSubtype_exc (k _ _ hC1) ?_
    rw [show (Value.ref C :: bm).contains (.ref C) = true from by simp]
    exact q
  show wpAny _ _ _ _ _ ⟨xHeap h C us, g, d, t, os⟩
  unfold isInstance callSpecial? specialOf
  repeat (first | with_reducible refine wpAny_call ?_ | lk)
  refine codeAny_mono go fun r s' z => ?_
  rcases r with e | (v | _ | _ | _) <;> first | exact z | exact z.elim | skip
  obtain ⟨rfl, z⟩ := z
  exact wpAny_pure (wpAny_pure z)
theorem exc_make (F : ExcBaseFacts B newId initId bmB) (T : OwnTail h bmB bm) {us : List Value} {R : Result → Shared → Prop}
    (hC : h.get? C = some (excClassObj nm qn C N bs bm hdct sn sub ab col dd k0 k1 k2 k3 k5 newId)) (hi : Looks (model prog w) h (typeLookup (.ref C) "__init__") (some (.ref fI)))
    (hb : Looks (model prog w) h (bindSpecial (.ref fI) (.ref (h.objs.size + 1))) (.ref fI, [.ref (h.objs.size + 1)])) (hz : us.length ≤ sizeLine)
    (go : codeAny (model prog w) (A.under (.builtin "type.__call__" ⟨.ref C :: us, []⟩)) (.call (.ref fI) ⟨.ref (h.objs.size + 1) :: us, []⟩) (InitBack (h.objs.size + 1) R) ⟨xHeap h C us, g, d, t, os⟩) :
    codeAny (model prog w) A (.call (.ref C) ⟨us, []⟩) R ⟨h, g, d, t, os⟩ := by
  have f1 := tc_lookup
  have f2 := tc_bind (.ref C)
  have hT : (⟨h, g, d, t, os⟩ : Shared).TypeIs (.ref C) "type" := ⟨_, hC, rfl⟩
  refine codeAny_of_tree ?_
  show wpAny _ _ (callAny (.ref C) _) _ _ _
  repeat (any_goals (first | assumption | with_reducible refine wpAny_loadPart_at hC ?_ | wp_step))
  refine ⟨rfl, codeAny_call_builtin_at (Code.quiet_builtin _ (by decide +kernel)) entry_typeCall (wpAny_check_type_call_sub hC (exc_tcall F T hC hi hb hz (codeAny_mono go fun r s' z => ?_)))⟩
  rcases r with e | (v | _ | _ | _) <;> first | exact z | exact z.elim
end
def XO (x C : Addr) (od : Option Addr) (tb : Value) : HO := .ext fun h => ∃ vs : Array Value, h.get? x = some (excObj C od vs) ∧ vs[1]? = some tb ∧ vs.size = 6 ∧ vs[2]? = some .none
theorem XO.ok {P : Program} {w : World} {H : Hp} {h : Heap} {x C : Addr} {od : Option Addr} {tb : Value} : ObjOk P w H h x (XO x C od tb) ↔ ∃ vs : Array Value, h.get? x = some (excObj C od vs) ∧ vs[1]? = some tb ∧ vs.size = 6 ∧ vs[2]? = some .none :=
  ⟨fun q => q.1, fun ⟨vs, a, b⟩ => ⟨⟨vs, a, b⟩, ⟨_, a⟩, fun _ _ ⟨vs, a, b⟩ k => ⟨vs, k _ a, b⟩⟩⟩
structure XCls (K : Frag) (C D : Addr) : Prop where
  at_ : ∃ nm qn N bs sn sub ab col dd k0 k1 k2 k3 k5, K.lookup C = some (excClassObj nm qn C N bs (.ref D :: bmVE) true sn sub ab col dd k0 k1 k2 k3 k5 "ValueError.__new__")
  up : ∃ c0 dd cd sl o es ep, K.lookup D = some { cls := c0, dict := dd, data := .cls cd, slots := sl } ∧ K.lookup cd.ns = some o ∧ o.data = .dict es ep ∧ StrKeys es ∧ nsFind es "__init__" = none
  ga : findIn K (.ref C) "__getattribute__" = some (some (.builtin "BaseException.__getattribute__"))
  gh : findIn K (.ref C) "__getattr__" = some none
  sa : findIn K (.ref C) "__setattr__" = some (some (.builtin "object.__setattr__"))
theorem XCls.tail {K : Frag} {C D : Addr} {h : Heap} (x : XCls K C D) (X : K.In h) : OwnTail h bmVE (.ref D :: bmVE) := by
  obtain ⟨c0, dd, cd, sl, o, es, ep, h1, h2, h3, h4, h5⟩ := x.up
  exact .own (mA := nsFind es) (X _ _ h1) ⟨o, es, ep, X _ _ h2, h3, h4, fun _ => rfl⟩ h5 .base
theorem XCls.obj {K : Frag} {C D : Addr} {h : Heap} (x : XCls K C D) (X : K.In h) : ∃ nm qn N bs sn sub ab col dd k0 k1 k2 k3 k5, h.get? C = some (excClassObj nm qn C N bs (.ref D :: bmVE) true sn sub ab col dd k0 k1 k2 k3 k5 "ValueError.__new__") := by
  obtain ⟨nm, qn, N, bs, sn, sub, ab, col, dd, k0, k1, k2, k3, k5, e⟩ := x.at_
  exact ⟨nm, qn, N, bs, sn, sub, ab, col, dd, k0, k1, k2, k3, k5, X _ _ e⟩
theorem XCls.cls {K : Frag} {C D : Addr} (x : XCls K C D) : ∃ cd, clsIn K C = some cd ∧ cd.mro = .ref C :: .ref D :: bmVE ∧ cd.hasDict = true := by
  obtain ⟨nm, qn, N, bs, sn, sub, ab, col, dd, k0, k1, k2, k3, k5, e⟩ := x.at_
  exact ⟨_, by unfold clsIn; rw [e], rfl, rfl⟩
theorem xmro {K : Frag} {C D : Addr} (x : XCls K C D) (b : Value) : mroIn K C b = some ((Value.ref C :: .ref D :: bmVE).contains b) := by
  obtain ⟨cd, a, m, _⟩ := x.cls
  unfold mroIn
  rw [a, Option.bind_some, m]
  rfl
section
variable {prog : Program} {w : World} {A : Around} {E : Value → Shared → Prop} {s : Shared} {K : Frag} {x C D : Addr} {vs : Array Value} {name : Str} {v : Value}
theorem exc_set {Q : Unit → Shared → Prop} (X : K.In s.heap) (c : XCls K C D) (hx : s.heap.get? x = some (excObj C none vs)) (n : findIn K (.ref C) name = some none)
    (q : ∀ h' dx, s.heap.objs.size ≤ dx → h'.get? x = some (excObj C (some dx) vs) → h'.Ns1 dx (fun y => if y = name then some v else none) → (∀ b o, b ≠ x → s.heap.get? b = some o → h'.get? b = some o) → Q () { s with heap := h', toks := s.toks + 2 }) :
    wpAny (model prog w) A (setAttr (.ref x) name v) Q E s := by
  have I : InstAt s.heap x (excObj C none vs) C none := ⟨hx, rfl, rfl, trivial⟩
  have SF := PySem.F.store_ValueError
  refine set_plain X I c.sa ?_
  obtain ⟨cd, hc, hm, hd⟩ := c.cls
  have sub : Looks (model prog w) s.heap (isInstance (.ref x) (.type "object")) true := I.type.andThen (looks_mroIn X (by rw [xmro c]; rfl))
  have hmro : Looks (model prog w) s.heap (mroOf (.ref C)) (.ref C :: .ref D :: bmVE) := ((looks_clsIn X hc).andThen (by rw [← hm]; exact .now))
  refine codeAny_call_builtin SF.slot.plain SF.entry (@check_slot (model prog w) _ _ { s with toks := s.toks + 1 } "object.__setattr__" "object" "__setattr__" (.ref x) [.str name s.toks, v] [] _ SF.kind SF.split sub (SF.args (.ref x) (.str name s.toks) v) ?_)
  rw [osa_eq, refuse_eq]
  refine wpAny_bind (wpAny_bind (Looks.here (s := { s with toks := s.toks + 1 }) I.type (wpAny_bind (Looks.here (s := { s with toks := s.toks + 1 }) hmro ?_))))
  rw [refuseLoop_ref, refuseLoop_ref, SF.passes]
  refine wpAny_pure (wpAny_bind (Looks.here (s := { s with toks := s.toks + 1 }) I.type (wpAny_bind (Looks.here (s := { s with toks := s.toks + 1 }) (looks_findIn X n) (wpAny_bind (wpAny_pure ?_))))))
  refine wpAny_bind (wpAny_pure (wpAny_bind (wpAny_bind (wpAny_loadPart hx (wpAny_bind (Looks.here (s := { s with toks := s.toks + 1 }) (looks_clsIn X hc) ?_))))))
  rw [hd]
  have hx1 : (s.heap.push emptyDict).get? x = some (excObj C none vs) := Heap.get?_push_of_some _ hx
  have hxs : x ≠ s.heap.objs.size := Nat.ne_of_lt (Heap.lt_size hx)
  refine wpAny_bind (wpAny_alloc' (wpAny_bind (wpAny_update' hx1 (wpAny_pure ?_))))
  have hgd : ((s.heap.push emptyDict).update x fun o => { cls := o.cls, dict := some s.heap.objs.size, data := o.data, slots := o.slots }).get? s.heap.objs.size = some emptyDict :=
    (Heap.get?_update_ne _ _ _ _ hxs.symm).trans (Heap.get?_push_at rfl rfl)
  have hnd : ((s.heap.push emptyDict).update x fun o => { cls := o.cls, dict := some s.heap.objs.size, data := o.data, slots := o.slots }).Ns s.heap.objs.size (fun _ => none) :=
    ⟨_, #[], _, hgd, rfl, fun e he => absurd he (by simp), fun _ => rfl⟩
  refine wpAny_bind (wpAny_pure (wpAny_bind ?_))
  refine wpAny_nsSet1 (Heap.Ns1.of_empty hnd) fun h' hn' hs => ?_
  obtain ⟨oD, esD, epD, hoD, hdD, hcD⟩ := hn'.count (Within.cons name v Within.nil)
  refine wpAny_bind (wpAny_lookBehind hoD (by rw [hdD]; exact pastItsLine_dict (Nat.le_trans hcD (by rw [List.length_cons, List.length_nil, sizeLine_eq]; omega))) (wpAny_pure ?_))
  refine q h' s.heap.objs.size (Nat.le_refl _) ?_ hn' fun b o hb e => ?_
  · refine (hs.2 x hxs).trans ?_
    rw [Heap.get?_update_self _ hx1 rfl]
  · exact (hs.2 b (Nat.ne_of_lt (Heap.lt_size e))).trans ((Heap.get?_update_ne _ _ _ _ hb).trans (Heap.get?_push_of_some _ e))
theorem exc_get {dx : Addr} {mA : Str → Option Value} {expr : Bool} {Q : Value → Shared → Prop} (X : K.In s.heap) (c : XCls K C D) (hx : s.heap.get? x = some (excObj C (some dx) vs)) (n : findIn K (.ref C) name = some none)
    (ns : s.heap.Ns1 dx mA) (hv : mA name = some v) (hh : handedIn v = true) (q : Q v { s with toks := s.toks + 1 }) : wpAny (model prog w) A (getAttr (.ref x) name expr) Q E s := by
  obtain ⟨od, ho, hl⟩ := lookIn_ns ns
  have I : InstAt s.heap x (excObj C (some dx) vs) C (some od) := ⟨hx, rfl, rfl, ho⟩
  obtain ⟨cd, hc, hm, hd⟩ := c.cls
  have hf : findObj K C (some od) name = some (.value v) := by
    unfold findObj
    rw [hc, Option.bind_some, n]
    show (PySem.W.ownOf cd (some od) name).bind _ = _
    unfold PySem.W.ownOf
    rw [hd, if_pos rfl]
    show (lookIn name od).bind _ = _
    rw [hl, hv]
    rfl
  obtain ⟨hp, g, d, t, os⟩ := s
  have L0 := I.type (M := model prog w)
  have L1 := looks_findIn (M := model prog w) X c.ga
  have L2 := looks_findIn (M := model prog w) X c.gh
  have L3 := looks_find (M := model prog w) X I hf
  unfold getAttr getAttrBy
  refine wpAny_bind (wpAny_mkText (wpAny_holding (wpAny_bind (L0.at (wpAny_bind (L1.at ?_))))))
  dsimp only
  rw [show (onTheHeap (Value.ref C) && Value.builtin "BaseException.__getattribute__" == Value.builtin "object.__getattribute__") = false from by rw [show (Value.builtin "BaseException.__getattribute__" == Value.builtin "object.__getattribute__") = false from by decide +kernel, Bool.and_false], if_neg (by decide)]
  have FG := PySem.F.excAttr_ValueError.ga
  refine wpAny_bind (Looks.at (show Looks (model prog w) hp (hookBefore (.ref C)) none from L2) (wpAny_bind (wpAny_attempt (wpAny_holding ?_))))
  unfold callGetattribute
  rw [show (expr && onTheHeap (Value.builtin "BaseException.__getattribute__")) = false from Bool.and_false _, if_neg (by decide)]
  unfold boundAndCalled
  rw [FG.bind]
  refine wpAny_bind (wpAny_pure (wpAny_call ?_))
  have sub : Looks (model prog w) hp (isInstance (.ref x) (.type "BaseException")) true := I.type.andThen (looks_mroIn X (by rw [xmro c]; rfl))
  refine codeAny_call_builtin FG.plain F.entry_bexc_ga (@check_slot (model prog w) _ _ ⟨hp, g, d, t + 1, os⟩ "BaseException.__getattribute__" "BaseException" "__getattribute__" (.ref x) [.str name t] [] _ (by decide +kernel) (by decide +kernel) sub (F.args_bexc_ga (.ref x) (.str name t)) ?_)
  unfold Builtin.«object.__getattribute__»
  refine wpAny_bind (wpAny_pure (wpAny_bind (wpAny_pure (wpAny_bind (L0.at (wpAny_bind (L3.at ?_)))))))
  refine wpAny_pure ?_
  show wpAny _ _ (handedOut v) _ _ _
  rw [handedOut_of hh]
  exact wpAny_pure q
theorem exc_init {t0 : Value} {told : List Value} {Q : Value → Shared → Prop} (X : K.In s.heap) (c : XCls K C D) (hx : s.heap.get? x = some (excObj C none vs)) (h6 : vs.size = 6) (hz : told.length ≤ sizeLine)
    (q : ∀ h' vs', h'.get? x = some (excObj C none vs') → vs'.size = 6 → vs'[1]? = vs[1]? → vs'[2]? = vs[2]? → (∀ b o, b ≠ x → s.heap.get? b = some o → h'.get? b = some o) → Q .none { s with heap := h' }) :
    wpAny (model prog w) A (call (.builtin "ValueError.__init__") (.ref x :: told)) Q E s := by
  have F := PySem.F.excBase_ValueError
  obtain ⟨nm, qn, N, bs, sn, sub, ab, col, dd, k0, k1, k2, k3, k5, hC⟩ := c.obj X
  have T := c.tail X
  obtain ⟨hp, g, d, t, os⟩ := s
  refine wpAny_call (codeAny_call_builtin F.init.plain F.initEntry (wpAny_check_init_subT F T hC hx rfl ?_))
  have hx1 : (hp.push { cls := .type "tuple", data := .seq told.toArray }).get? x = some (excObj C none vs) := Heap.get?_push_of_some _ hx
  have h0 : (0 : Nat) < vs.size := by omega
  obtain ⟨y, hy⟩ : ∃ y, vs[0]? = some y := ⟨_, Array.getElem?_eq_getElem h0⟩
  wp_walk
  rw [hy]
  have fin : Q .none ⟨(hp.push { cls := .type "tuple", data := .seq told.toArray }).update x (Obj.mapFields (·.setIfInBounds 0 (Value.ref hp.objs.size))), g, d, t, os⟩ := by
    refine q _ (vs.setIfInBounds 0 (Value.ref hp.objs.size)) ?_ (by simpa using h6) (by simp) (by simp) fun b o hb e => ?_
    · rw [Heap.get?_update_self _ hx1 rfl]
      rfl
    · exact (Heap.get?_update_other _ _ (Ne.symm hb)).trans (Heap.get?_push_of_some _ e)
  refine wpAny_pure (wpAny_bind (wpAny_setField hx1 rfl h0 ?_))
  split
  · wp_walk
    exact fin
  · exact wpAny_pure (wpAny_pure fin)
end
end L2
namespace L2
open PySem PySem.Spec PyProof.Rows PySem.W
theorem upd_self {H : Hp} {a : Addr} {o : HO} (h : H a = some o) : upd H a o = H := by
  funext b
  by_cases e : b = a
  · subst e; rw [upd_same, h]
  · rw [upd_ne e]
section
variable {X : Cx} {pins : List (Addr × Obj)} {σ : St} {H : Hp} {s : Shared}
theorem Inv.exc (I : Inv X pins σ H s) (C : Addr) (us : List Value) : Inv X pins σ (upd H (s.heap.objs.size + 1) (XO (s.heap.objs.size + 1) C none .none)) { s with heap := xHeap s.heap C us } := by
  have I1 := I.kept (h' := s.heap.push { cls := .type "tuple", data := .seq us.toArray }) (t' := s.toks) fun b u e => Heap.get?_push_of_some _ e
  exact I1.laid (a := s.heap.objs.size + 1) (h' := xHeap s.heap C us) (t' := s.toks) (fun b u e => Heap.get?_push_of_some _ e) (Nat.le_of_eq (Heap.size_push _ _)) (XO.ok.mpr ⟨_, xHeap_new, rfl, rfl, rfl⟩)
end
def OwnX (P : Program) (w : World) (K : Frag) (mg : Str → Option Value) (base : Heap) (CX : CXT) (k : Nat) (C D : Addr) (x : Str) (ps : List Str) (sp : Sp) : Prop :=
  ∃ f fd, FnOk P w K mg base CX k f fd ps sp ∧ XCls K C D ∧ findIn K (.ref C) "__init__" = some (some (.ref f)) ∧ isFn K (.ref f) = true ∧ keepIn K (.ref C) = true ∧ mg x = some (.ref C) ∧ Binds K fd ps []
def tMakeX (C : Addr) (sp : Sp) (E : XK) (t : TA) : TE := fun σ H Q => t σ H fun vs H1 => vs.length ≤ 100 ∧ ∀ x, H1 x = none → sp (.ref x :: vs) (upd H1 x (XO x C none .none)) (fun v H2 => v = .non ∧ Q (.ref x) H2) E
section
variable {X : Cx} {CX : CXT} {k : Nat} {C D : Addr} {ps : List Str} {sp : Sp} {E : XK} {x f : Str} {p ap pos pos' : Pos} {e o value : Expr} {es : List Expr} {ta tv te : TE} {t : TA}
theorem pe_ownX (O : OwnX X.prog X.w X.K X.mg X.base CX k C D x ps sp) (hr : Room (k + 1) X.A) (hg : Gl X x) (hx : Passes CX X E) (ha : PA X (e :: es) t) (hdb : (x == ("__debug__" : Str)) = false := by decide)
    (he : starEach (e :: es) X.env = (false, eval e X.env) :: starEach es X.env := by rfl) (hpl : (backTo pos (starEach es X.env)).any (·.1) = false := by rfl) : PE X (.Call (.Name x p) (e :: es) [] pos) (tMakeX C sp E t) := by
  obtain ⟨fI, fd, F, c, hi, hf, hk, hm, hb⟩ := O
  intro pins s σ H Q I h
  refine wpAny_Call_Name_kw (ld_glob I hg hm ?_ hdb)
  refine PySem.W.callWith_K (h₀ := X.base) I.ok.mod.kin hk (thn (ha pos pins s σ H _ I h) fun us s1 ⟨vs, H1, I1, r, hz, q⟩ => ⟨I1.kIn, ?_⟩) he hpl
  have hq := q (s1.heap.objs.size + 1) (I1.hok.fresh (Nat.le_succ _))
  have I2 := I1.exc C us
  have r2 : Vals (V.ref (s1.heap.objs.size + 1) :: vs) (Value.ref (s1.heap.objs.size + 1) :: us) := .cons rfl r
  have hl : (Value.ref (s1.heap.objs.size + 1) :: us).length = ps.length := by rw [← r2.length]; exact F.len _ _ _ _ hq
  obtain ⟨nm, qn, N, bs, sn, sub, ab, col, dd, k0, k1, k2, k3, k5, hC⟩ := c.obj I1.kIn
  have kI2 := I2.kIn
  have e2 := I2.env0.make C us []
  have hbind := hb { s1 with heap := xHeap s1.heap C us } (Value.ref (s1.heap.objs.size + 1) :: us) kI2 (by simpa using hl)
  rw [List.append_nil] at hbind
  have run := F.run _ X.stack { s1 with heap := xHeap s1.heap C us } _ ⟨Value.ref (s1.heap.objs.size + 1) :: us, []⟩ (Value.ref (s1.heap.objs.size + 1) :: us) _ _ E (hr.make C us []) e2 hbind r2 hq
  have K1 := I1.kIn
  have T1 := c.tail I1.kIn
  obtain ⟨hp, g, d, tk, os⟩ := s1
  refine wpAny_call (exc_make PySem.F.excBase_ValueError T1 hC (looks_findIn K1 hi) (bind_fn K1 _ (beq_iff_eq.mp hf)) ?_ (codeAny_mono run fun r' s' z => ?_))
  · show us.length ≤ sizeLine; rw [← r.length]; exact Nat.le_trans hz (by decide)
  · cases r' with
    | error e => exact hx pins σ _ _ e s' I2 z
    | ok fl =>
      cases fl with
      | ret u =>
        obtain ⟨v, H', I3, rv, ev, q3⟩ := I2.after z
        subst ev
        exact ⟨rv, ⟨V.ref (hp.objs.size + 1), H', I3, rfl, q3⟩⟩
      | next => exact False.elim z
      | brk => exact False.elim z
      | cont => exact False.elim z
def tXinit (K : Frag) (D : Addr) (t : TA) : TE := fun σ H Q => t σ H fun vs H1 => ∃ a C m, vs = [.ref a, m] ∧ H1 a = some (XO a C none .none) ∧ XCls K C D ∧ Q .non H1
theorem pe_xinit (hg : Gl X x) (hm : X.mg x = some (.ref D)) (rd : readsIn X.K D (.type "type") = true) (sp' : specialIn X.K (.ref D) "__getattribute__" = some (some (.builtin "type.__getattribute__")))
    (fc : findCls X.K (.ref D) (.type "type") "__init__" = some (.val (.builtin "ValueError.__init__"))) (ha : PA X (e :: es) t) (hdb : (x == ("__debug__" : Str)) = false := by decide)
    (he : starEach (e :: es) X.env = (false, eval e X.env) :: starEach es X.env := by rfl) (hpl : (backTo pos (starEach es X.env)).any (·.1) = false := by rfl) {pl : Sem Bool}
    (ht : eval (.Call (.Attribute (.Name x p) "__init__" ap) (e :: es) [] pos) X.env = (do
      let ov ← eval (.Name x p) X.env
      standAt ap.atName
      let (f, first) ← holding [ov] (getMethod ov "__init__" pl)
      callWith pos f first (backTo pos (starEach (e :: es) X.env)) (backToKw pos (keywordEach [] X.env))) := by rfl) :
    PE X (.Call (.Attribute (.Name x p) "__init__" ap) (e :: es) [] pos) (tXinit X.K D t) := by
  intro pins s σ H Q I h
  refine PySem.W.methodCall_KW (pl := pl) (ld_glob I hg hm ?_ hdb) ht
  refine method_cls I.kIn sp' (cls_value I.kIn rd fc (by decide +kernel) ?_)
  have I' : Inv X pins σ H { s with toks := s.toks + 1 } := I.tok _
  refine PyProof.Rows.callWith_builtin1 (thn (ha pos pins _ σ H _ I' h) fun us s1 ⟨vs, H1, I1, r, a, C, m, e1, hx, c, q⟩ => ?_) he hpl
  subst e1
  obtain ⟨u1, u2, rfl, ru, _⟩ := vals2 r
  cases ru
  obtain ⟨vs, ho, h1, h6, h2⟩ := XO.ok.mp (I1.hok a _ hx)
  refine exc_init (t0 := .none) I1.kIn c ho h6 (by show 1 ≤ sizeLine; decide) fun h' vs' o1 o2 o3 o4 k => ?_
  refine ⟨.non, H1, ?_, rfl, q⟩
  have W := I1.write (x := a) (e := a) (o := XO a C none .none) (t' := s1.toks) (h' := h') (by rw [hx]; exact True.intro) (.inl rfl) (fun b u hb z => k b u hb z) ⟨_, o1⟩ (XO.ok.mpr ⟨vs', o1, o3.trans h1, o2, o4.trans h2⟩)
  rwa [upd_self hx] at W
def tXset (K : Frag) (D : Addr) (f : Str) (ta tv : TE) : TS := fun Dn σ H => tv σ H fun y H1 => ta σ H1 fun x H2 => ∃ a C, x = .ref a ∧ H2 a = some (XO a C none .none) ∧ XCls K C D ∧ NoAttr K C f ∧
  ∀ dx, H2 dx = none → dx ≠ a → Dn.nx σ (upd (upd H2 dx (.xd [(f, y)])) a (XO a C (some dx) .none))
theorem ps_xset (ha : PE X o ta) (hv : PE X value tv) (hs : swapsWith value (some (.Attribute o f pos')) pos.line X.env = pure false := by rfl) : PS X (.Assign [.Attribute o f pos'] value pos) (tXset X.K D f ta tv) := by
  intro pins s σ H Dn I h
  refine plainObj_wpAny_Assign_Attribute (thn (hv pins s σ H _ I h) fun u s1 ⟨y, H1, I1, ry, q⟩ => thn (ha pins s1 σ H1 _ I1 q) fun ov s2 ⟨x, H2, I2, rx, a, C, ex, ea, c, n, q2⟩ => ?_) hs
  subst ex
  obtain rfl : ov = Value.ref a := rx
  obtain ⟨vs, ho, h1, h6, h2⟩ := XO.ok.mp (I2.hok a _ ea)
  refine exc_set I2.kIn c ho n fun h' dx hdx o1 ns k => ?_
  have hn : H2 dx = none := I2.hok.fresh hdx
  have hda : dx ≠ a := fun z => by rw [z, ea] at hn; cases hn
  refine ⟨σ, _, ?_, q2 dx hn hda⟩
  have mu : ∀ b u, H2 b = some u → u ≠ XO a C none .none → b ≠ a := fun b u hb hu z => by rw [z, ea] at hb; exact hu (Option.some.inj hb).symm
  have fr : ∀ b u, H2 b = some u → b ≠ dx := fun b u hb z => by rw [z, hn] at hb; cases hb
  refine I2.un (t' := s2.toks + 2) (H' := upd (upd H2 dx (.xd [(f, y)])) a (XO a C (some dx) .none)) ⟨fun b o e nb _ _ => k b o (fun z => by rw [z, ea] at nb; cases nb) e, fun b o e nb _ _ => ⟨o.slots, k b o (fun z => by rw [z, ea] at nb; cases nb) e⟩, fun b o e nb _ => ?_, fun b o e _ => ?_, fun b xs e => ?_, fun b u xs e => ?_, fun b ps e => ⟨#[], ?_⟩⟩ fun b u e => ?_
  · rw [upd_ne (fun z => by rw [z, ea] at nb; cases nb), upd_ne (Nat.ne_of_lt (Nat.lt_of_lt_of_le (Heap.lt_size e) hdx))]
    exact nb
  · by_cases z : b = a
    · exact ⟨_, z ▸ o1⟩
    · exact ⟨o, k b o z e⟩
  · rw [upd_ne (mu b _ e fun z => by cases z), upd_ne (fr b _ e)]; exact e
  · rw [upd_ne (mu b _ e fun z => by cases z), upd_ne (fr b _ e)]; exact e
  · rw [upd_ne (mu b _ e fun z => by cases z), upd_ne (fr b _ e), e]; simp
  · by_cases z : b = a
    · subst z
      rw [upd_same] at e
      cases e
      exact XO.ok.mpr ⟨vs, o1, h1, h6, h2⟩
    · rw [upd_ne z] at e
      by_cases z2 : b = dx
      · subst z2
        rw [upd_same] at e
        cases e
        refine ⟨_, ns, fun g => ?_⟩
        by_cases hg : g = f
        · subst hg
          rw [if_pos rfl]
          show RelO (List.lookup g [(g, y)]) _
          rw [show List.lookup g [(g, y)] = some y from by simp [List.lookup]]
          exact ry
        · rw [if_neg hg]
          show RelO (List.lookup g [(f, y)]) _
          rw [show List.lookup g [(f, y)] = none from by simp [List.lookup, beq_eq_false_iff_ne.mpr hg]]
          exact True.intro
      · rw [upd_ne z2] at e
        refine (I2.hok b u e).stay (fun c v hc q => k c v ?_ q) (fun c q => ?_) fun c xs q => ?_
        · rintro rfl
          rcases hc with hc | hc
          · exact z hc.symm
          · rw [ea] at hc; cases hc
        · rw [upd_ne (mu c _ q fun z => by cases z), upd_ne (fr c _ q)]; exact q
        · rw [upd_ne (mu c _ q fun z => by cases z), upd_ne (fr c _ q)]; exact q
def tXget (K : Frag) (D : Addr) (f : Str) (ta : TE) : TE := fun σ H Q => ta σ H fun x H1 => ∃ a C dx tb fs v, x = .ref a ∧ H1 a = some (XO a C (some dx) tb) ∧ H1 dx = some (.xd fs) ∧ XCls K C D ∧ NoAttr K C f ∧ fs.lookup f = some v ∧ Q v H1
theorem pe_xget (he : PE X e ta) (hb : attributeBase e f X.env (eval e X.env) = eval e X.env := by rfl) : PE X (.Attribute e f pos) (tXget X.K D f ta) := by
  intro pins s σ H Q I h
  refine attr_of hb (thn (he pins s σ H _ I h) fun u s1 ⟨x, H1, I1, rx, a, C, dx, tb, fs, v, ex, ea, ed, c, n, l, q⟩ => ?_)
  subst ex
  obtain rfl : u = Value.ref a := rx
  obtain ⟨vs, ho, h1, h6, h2⟩ := XO.ok.mp (I1.hok a _ ea)
  obtain ⟨mA, ns, r⟩ := (show ∃ mA, s1.heap.Ns1 dx mA ∧ ∀ f, RelO (fs.lookup f) (mA f) from I1.hok dx _ ed)
  obtain ⟨u, hu, ru⟩ := RelO.some_of (v := v) (o := mA f) (by rw [← l]; exact r f)
  exact exc_get I1.kIn c ho n ns hu (handed_of ru) ⟨v, H1, I1.tok _, ru, q⟩
end
end L2
namespace L2
open PySem PySem.Spec PyProof.Rows PySem.W
def TBo (T : Addr) : HO := .ext fun h => ∃ (o : Obj) (ts : Array Value), h.get? T = some o ∧ o.data = .fields ts ∧ ts[3]? = some .none
theorem TBo.ok {P : Program} {w : World} {H : Hp} {h : Heap} {T : Addr} : ObjOk P w H h T (TBo T) ↔ ∃ (o : Obj) (ts : Array Value), h.get? T = some o ∧ o.data = .fields ts ∧ ts[3]? = some .none :=
  ⟨fun q => q.1, fun ⟨o, ts, a, b⟩ => ⟨⟨o, ts, a, b⟩, ⟨_, a⟩, fun _ _ ⟨o, ts, a, b⟩ k => ⟨o, ts, k _ a, b⟩⟩⟩
def TbOk (H : Hp) (x : Addr) (tb : Value) : Prop := tb = .none ∨ ∃ T, tb = .ref T ∧ H T = some (TBo T) ∧ T ≠ x
section
variable {M : Model} {A A2 : Around} {E : Value → Shared → Prop} {s : Shared} {base : Heap} {env : Env} {outer : List Env} {L e : Addr} {oe : Obj} {vs : Array Value} {Q : Unit → Shared → Prop}
theorem note_new (hfr : A.frames = some (env :: outer)) (hl : s.heap.FunFrames base (env :: outer)) (hf : env.frame = some L) (he : s.heap.get? e = some oe) (hd : oe.data = .fields vs) (h1 : 1 < vs.size) {had : Bool} {old : Value}
    (q : ∀ h' T, s.heap.objs.size ≤ T → h'.get? e = some (oe.mapFields (·.setIfInBounds 1 (.ref T))) → (∃ (o : Obj) (ts : Array Value), h'.get? T = some o ∧ o.data = .fields ts ∧ ts[3]? = some .none) →
      (∀ b o, b ≠ e → b ∉ frs (env :: outer) → s.heap.get? b = some o → h'.get? b = some o) → (∀ b o, b ≠ e → s.heap.get? b = some o → ∃ sl, h'.get? b = some { o with slots := sl }) → Q () { s with heap := h' }) :
    wpAny M A (do let a ← frameOf env; let pl ← entryPlaceOf L had; let b ← EntryCells.newEntry old a .none (rawInt L) .none pl; setField (.ref e) 1 b) (fun _ s' => wpAny M A2 (setFlight (.ref e) none) Q E s') E s := by
  have ne : e ∉ frs (env :: outer) := fun hm => by
    obtain ⟨_, o, ho, hn⟩ := hl.mem hm
    rw [he] at ho
    cases ho
    exact hn vs hd
  refine wpAny_bind (wpAny_frameOf_fun hfr hl hf fun g1 hs => wpAny_bind (wpAny_entryPlaceOf fun pl hpl => ?_))
  unfold EntryCells.newEntry newFields
  refine wpAny_bind (wpAny_newObj_type ?_ (hpl.sizeOk5 _ _ _ _ _))
  generalize hob : ({ cls := .type "traceback", dict := none, data := .fields ([old, .ref L, .none, rawInt L, .none] ++ (if pl.isEmpty then List.replicate 6 Value.none else pl)).toArray } : Obj) = ob
  have hobd : ob.data = .fields ([old, .ref L, .none, rawInt L, .none] ++ (if pl.isEmpty then List.replicate 6 Value.none else pl)).toArray := by rw [← hob]
  have hobf : ob.isFreed = false := Obj.isFreed_of_fields hobd
  have e1 : g1.get? e = some oe := (hs.2.1 e ne).trans he
  have eT : g1.objs.size ≠ e := Nat.ne_of_gt (Heap.lt_size e1)
  have e2 : (g1.push ob).get? e = some oe := Heap.get?_push_of_some _ e1
  refine wpAny_setField e2 hd h1 ?_
  have d3 := Obj.data_mapFields hd (·.setIfInBounds 1 (Value.ref g1.objs.size))
  have e3 := Heap.get?_update_self (Obj.mapFields (·.setIfInBounds 1 (Value.ref g1.objs.size))) e2 (Obj.isFreed_of_fields d3)
  have t3 := (Heap.get?_update_other (g1.push ob) (Obj.mapFields (·.setIfInBounds 1 (Value.ref g1.objs.size))) (Ne.symm eT)).trans (Heap.get?_push_size g1 hobf)
  unfold setFlight
  refine wpAny_bind (wpAny_field e3 d3 (x := .ref g1.objs.size) (by simp [h1]) ?_)
  rw [if_pos (show (Value.ref g1.objs.size != Value.none) = true from by simp)]
  refine wpAny_setField t3 hobd (by simp only [List.size_toArray, List.length_append, List.length_cons, List.length_nil] <;> omega) ?_
  have keep : ∀ b o, b ≠ e → g1.get? b = some o → (((g1.push ob).update e (Obj.mapFields (·.setIfInBounds 1 (Value.ref g1.objs.size)))).update g1.objs.size (Obj.mapFields (·.setIfInBounds 3 ((none : Option Addr).elim Value.none fun f => rawInt f)))).get? b = some o := fun b o hb hg => by
    rw [Heap.get?_update_other _ _ (Nat.ne_of_gt (Heap.lt_size hg)), Heap.get?_update_other _ _ (Ne.symm hb)]
    exact Heap.get?_push_of_some _ hg
  refine q _ g1.objs.size (by rw [hs.1]; exact Nat.le_refl _) ?_ ⟨_, _, Heap.get?_update_self _ t3 (Obj.isFreed_of_fields (Obj.data_mapFields hobd _)), Obj.data_mapFields hobd _, by rcases hpl with rfl | ⟨_, _, _, _, _, _, _, rfl⟩ <;> simp⟩
    (fun b o hb hm hg => keep b o hb ((hs.2.1 b hm).trans hg)) fun b o hb hg => ?_
  · rw [Heap.get?_update_other _ _ eT]
    exact e3
  · obtain ⟨sl, z⟩ := hs.2.2 b o hg
    exact ⟨sl, keep b _ hb z⟩
end
section
variable {X : Cx} {pins : List (Addr × Obj)} {σ : St} {H : Hp} {s : Shared} {env : Env} {outer : List Env} {L x C : Addr} {od : Option Addr} {tb : Value} {A2 : Around} {E : Value → Shared → Prop} {Q : Unit → Shared → Prop}
theorem Inv.noted (I : Inv X pins σ H s) (hst : X.stack = X.env :: X.outer) (hf : X.env.frame = some X.env.locals) (hx : H x = some (XO x C od tb)) (ht : TbOk H x tb)
    (q : ∀ s' T, H T = none → T ≠ x → Inv X pins σ (upd (upd H x (XO x C od (.ref T))) T (TBo T)) s' → Q () s') :
    wpAny (model X.prog X.w) X.A (noteFrame (.ref x) X.env) (fun _ s' => wpAny (model X.prog X.w) A2 (setFlight (.ref x) none) Q E s') E s := by
  obtain ⟨vs, ho, h1, h6, h2⟩ := XO.ok.mp (I.hok x _ hx)
  have hfr : X.A.frames = some (X.env :: X.outer) := by rw [← hst]; exact I.ok.frames
  have hl : s.heap.FunFrames X.base (X.env :: X.outer) := by rw [← hst]; exact I.stack
  have nofr : ∀ b u, H b = some u → b ∉ frs (X.env :: X.outer) := fun b u hb hm => by
    have := I.stkFree b (by rw [hst]; exact hm)
    rw [hb] at this
    cases this
  -- what both ways end in
  have fin : ∀ (h' : Heap) (T : Addr), s.heap.objs.size ≤ T → h'.get? x = some (excObj C od (vs.setIfInBounds 1 (.ref T))) → (∃ (o : Obj) (ts : Array Value), h'.get? T = some o ∧ o.data = .fields ts ∧ ts[3]? = some .none) →
      (∀ b o, b ≠ x → tb ≠ .ref b → b ∉ frs (X.env :: X.outer) → s.heap.get? b = some o → h'.get? b = some o) → (∀ b o, b ≠ x → tb ≠ .ref b → s.heap.get? b = some o → ∃ sl, h'.get? b = some { o with slots := sl }) →
      (∀ b, tb = .ref b → ∃ (o : Obj) (ts : Array Value), h'.get? b = some o ∧ o.data = .fields ts ∧ ts[3]? = some .none) → Q () { s with heap := h' } := by
    intro h' T hT o1 oT k1 k2 k3
    have hn : H T = none := I.hok.fresh hT
    have hTx : T ≠ x := fun z => by rw [z, hx] at hn; cases hn
    have ntb : ∀ b u, H b = some u → u ≠ TBo b → tb ≠ .ref b := fun b u hb hu z => by
      rcases ht with e | ⟨T0, e, h0, _⟩
      · rw [e] at z; cases z
      · rw [e] at z; cases z; rw [h0] at hb; exact hu (Option.some.inj hb).symm
    have ntb0 : ∀ b, H b = none → tb ≠ .ref b := fun b hb z => by
      rcases ht with e | ⟨T0, e, h0, _⟩
      · rw [e] at z; cases z
      · rw [e] at z; cases z; rw [h0] at hb; cases hb
    have nx : ∀ b, H b = none → b ≠ x := fun b hb z => by rw [z, hx] at hb; cases hb
    have nx' : ∀ b u, H b = some u → u ≠ XO x C od tb → b ≠ x := fun b u hb hu z => by rw [z, hx] at hb; exact hu (Option.some.inj hb).symm
    have nT : ∀ b u, H b = some u → b ≠ T := fun b u hb z => by rw [z, hn] at hb; cases hb
    have there : ∀ b o, s.heap.get? b = some o → ∃ o', h'.get? b = some o' := fun b o e => by
      by_cases z : b = x
      · exact ⟨_, z ▸ o1⟩
      · by_cases z2 : tb = .ref b
        · obtain ⟨o', _, e', _⟩ := k3 b z2
          exact ⟨o', e'⟩
        · obtain ⟨sl, e'⟩ := k2 b o z z2 e
          exact ⟨_, e'⟩
    have un : Un (frs X.stack) [] H (upd (upd H x (XO x C od (.ref T))) T (TBo T)) s.heap h' := by
      rw [hst]
      refine ⟨fun b o e nb hm _ => k1 b o (nx b nb) (ntb0 b nb) hm e, fun b o e nb _ _ => k2 b o (nx b nb) (ntb0 b nb) e, fun b o e nb _ => ?_, fun b o e _ => there b o e, fun b xs e => ?_, fun b u xs e => ?_, fun b ps e => ⟨#[], ?_⟩⟩
      · rw [upd_ne (Nat.ne_of_lt (Nat.lt_of_lt_of_le (Heap.lt_size e) hT)), upd_ne (nx b nb)]; exact nb
      · rw [upd_ne (nT b _ e), upd_ne (nx' b _ e fun z => by cases z)]; exact e
      · rw [upd_ne (nT b _ e), upd_ne (nx' b _ e fun z => by cases z)]; exact e
      · rw [upd_ne (nT b _ e), upd_ne (nx' b _ e fun z => by cases z), e]; simp
    have hok : HOk X.prog X.w (upd (upd H x (XO x C od (.ref T))) T (TBo T)) h' := fun b u e => by
      by_cases z : b = T
      · subst z
        rw [upd_same] at e
        cases e
        exact TBo.ok.mpr oT
      rw [upd_ne z] at e
      by_cases z2 : b = x
      · subst z2
        rw [upd_same] at e
        cases e
        exact XO.ok.mpr ⟨_, o1, by simp [h6], by simpa using h6, by simpa using h2⟩
      rw [upd_ne z2] at e
      by_cases z3 : tb = .ref b
      · have hu : u = TBo b := by
          rcases ht with e' | ⟨T0, e', h0, _⟩
          · rw [e'] at z3; cases z3
          · rw [e'] at z3; cases z3; rw [h0] at e; exact (Option.some.inj e).symm
        subst hu
        exact TBo.ok.mpr (k3 b z3)
      · refine (I.hok b u e).stay (fun c v hc q => ?_) (fun c q => ?_) fun c xs q => ?_
        · rcases hc with rfl | hc
          · exact k1 c v z2 z3 (nofr c u e) q
          · exact k1 c v (nx' c _ hc fun z => by cases z) (ntb c _ hc fun z => by cases z) (nofr c _ hc) q
        · rw [upd_ne (nT c _ q), upd_ne (nx' c _ q fun z => by cases z)]; exact q
        · rw [upd_ne (nT c _ q), upd_ne (nx' c _ q fun z => by cases z)]; exact q
    exact q _ T hn hTx (I.call' (ch := []) (s' := { s with heap := h' }) rfl un hok I.bare fun b z => absurd z (by simp))
  have hsz : 1 < vs.size := by omega
  unfold noteFrame
  simp only [hf]
  refine wpAny_bind (wpAny_field ho rfl h1 ?_)
  rcases ht with rfl | ⟨T0, rfl, h0, hTx⟩
  · rw [if_neg (by decide)]
    exact note_new hfr hl hf ho rfl hsz fun h' T hT o1 oT k1 k2 => fin h' T hT o1 oT (fun b o hb _ hm e => k1 b o hb hm e) (fun b o hb _ e => k2 b o hb e) fun b z => by cases z
  · rw [if_pos (show (Value.ref T0 != Value.none) = true from by simp)]
    obtain ⟨oT0, ts0, g0, d0, f0⟩ := TBo.ok.mp (I.hok T0 _ h0)
    refine wpAny_bind (wpAny_field g0 d0 f0 ?_)
    rw [if_neg (show ¬ ((Value.none == rawInt X.env.locals) = true) from by simp [rawInt])]
    refine wpAny_bind (wpAny_setField g0 d0 (Array.getElem?_eq_some_iff.mp f0).1 ?_)
    have oth : ∀ b, b ≠ T0 → (s.heap.update T0 (Obj.mapFields (·.setIfInBounds 3 Value.none))).get? b = s.heap.get? b := fun b hb => Heap.get?_update_other _ _ (Ne.symm hb)
    have t0 := Heap.get?_update_self (h := s.heap) (Obj.mapFields (·.setIfInBounds 3 Value.none)) g0 (Obj.isFreed_of_fields (Obj.data_mapFields d0 _))
    have sz0 : 3 < ts0.size := (Array.getElem?_eq_some_iff.mp f0).1
    have hl2 : (s.heap.update T0 (Obj.mapFields (·.setIfInBounds 3 Value.none))).FunFrames X.base (X.env :: X.outer) := hl.of_keeps fun b o hb hnf => ⟨o, (oth b fun z => by
      rw [z, g0] at hb; cases hb; exact hnf ts0 d0).trans hb, rfl⟩
    refine note_new (s := { s with heap := s.heap.update T0 (Obj.mapFields (·.setIfInBounds 3 Value.none)) }) hfr hl2 hf ((oth x (Ne.symm hTx)).trans ho) rfl hsz fun h' T hT o1 oT k1 k2 => ?_
    refine fin h' T (by rw [Heap.size_after_update] at hT; exact hT) o1 oT (fun b o hb hb2 hm e => k1 b o hb hm ((oth b fun z => hb2 (by rw [z])).trans e)) (fun b o hb hb2 e => k2 b o hb ((oth b fun z => hb2 (by rw [z])).trans e)) fun b z => ?_
    cases z
    exact ⟨_, _, k1 T0 _ hTx (nofr T0 _ h0) t0, Obj.data_mapFields d0 _, by simp [sz0]⟩
end
end L2
namespace L2
open PySem PySem.Spec PyProof.Rows PySem.W
def CXe (P : Program) (w : World) : CXT := fun outer H s E e s' => ∃ (x : Addr) (od : Option Addr) (H' : Hp), e = .ref x ∧ s'.os = s.os ∧ AllBare s'.gens ∧ Un (frs outer) [] H H' s.heap s'.heap ∧ HOk P w H' s'.heap ∧ E e od H'
def Leaves (X : Cx) (E : XK) : Prop := ∀ (pins : List (Addr × Obj)) (σ : St) (H : Hp) (s : Shared) (x C : Addr) (od : Option Addr), Inv X pins σ H s → H x = some (XO x C od .none) →
  (∀ T, H T = none → T ≠ x → E (.ref x) od (upd (upd H x (XO x C od (.ref T))) T (TBo T))) → X.xe (.ref x) s
theorem leaves_cx {P : Program} {w : World} {K : Frag} {mg : Str → Option Value} {base : Heap} {N : List Str} {qual : Str} {scope : Scope} {f : Addr} {cd : Value} {A : Around} {outer : List Env} {s : Shared} {H : Hp} {E : XK} :
    Leaves (cxOf (CXe P w) P w K mg base N qual scope f cd A outer s H E) E := by
  intro pins σ H1 s1 x C od I hx hE
  refine wpAny_bind (I.noted rfl rfl hx (.inl rfl) fun s' T hT hTx I' => ?_)
  exact ⟨x, od, _, rfl, I'.os, I'.bare, I'.base, I'.hok, hE T hT hTx⟩
section
variable {P : Program} {w : World} {K : Frag} {mg : Str → Option Value} {base : Heap}
theorem Fun.okX {x qual : Str} {st : Stmt} {f : Addr} {fd : FuncData} {N ps : List Str} {k : Nat} {sp : Sp} (F : Fun K x qual st f fd) (S : FnScope N ps (defScope st)) (len : ∀ vs H Q E, sp vs H Q E → vs.length = ps.length)
    (body : ∀ (cdv : Value) (A : Around) (outer : List Env) (s : Shared) (H : Hp) (vs : List V) (Q : VK) (E : XK), Room k (A.deeper (envOfC qual (defScope st) s.heap.objs.size f cdv)) → sp vs H Q E →
      ∃ t, PSs (cxOf (CXe P w) P w K mg base N qual (defScope st) f cdv A outer s H E) (defBody st) t ∧ t { nx := fun _ H' => Q .non H', rt := Q } (start N vs) H) : FnOk P w K mg base (CXe P w) (k + 1) f fd ps sp := by
  obtain ⟨oc, od, kV, doc, pm, an, cdv, ct, osl, rfl, lk, hcd⟩ := F.ex
  exact fn_of lk hcd S len fun A outer s H vs Q E hr hsp => body cdv A outer s H vs Q E hr hsp
end
section
variable {X : Cx} {D : Addr} {e : Expr} {te : TE} {pos : Pos} {E : XK}
def tRaise (K : Frag) (D : Addr) (E : XK) (te : TE) : TS := fun _ σ H => te σ H fun v H1 => ∃ x C od, v = .ref x ∧ H1 x = some (XO x C od .none) ∧ XCls K C D ∧ ∀ T, H1 T = none → T ≠ x → E (.ref x) od (upd (upd H1 x (XO x C od (.ref T))) T (TBo T))
theorem ps_raise (hl : Leaves X E) (hc : X.calm = true) (he : PE X e te) : PS X (.Raise (some e) none pos) (tRaise X.K D E te) := by
  intro pins s σ H Dn I h
  rw [arm_exec_Raise]
  refine wpAny_bind (wpAny_standAt ?_)
  unfold raiseStmt
  refine wpAny_bind (wpAny_bind (wpAny_mono (he pins s σ H _ I h) (fun v s1 ⟨y, H1, I1, ry, x, C, od, e1, hx, c, hE⟩ => wpAny_bind (wpAny_standAt (wpAny_pure ?_))) fun _ _ z => z))
  subst e1
  obtain rfl : v = Value.ref x := ry
  obtain ⟨vs, ho, h1, h6, h2⟩ := XO.ok.mp (I1.hok x _ hx)
  obtain ⟨nm, qn, N, bs, sn, sub, ab, col, dd, k0, k1, k2, k3, k5, hC⟩ := c.obj I1.kIn
  have hcB : (Value.ref C :: .ref D :: bmVE).contains (.type "BaseException") = true := by rfl
  have fin : X.xe (.ref x) s1 := hl pins σ H1 s1 x C od I1 hx hE
  have hh := I1.ok.hd hc
  obtain ⟨hp, g, d, tk, os⟩ := s1
  repeat (first | with_reducible refine wpAny_loadPart_at ho ?_ | with_reducible refine wpAny_loadPart_at hC ?_ | (with_reducible refine wpAny_isSubtype_exc hC ?_; rw [hcB]) | with_reducible refine wpAny_field ho rfl h1 ?_ | wp_step)
  exact wpAny_raiseNew_none hh fin
end
def Cx.inX (X : Cx) (x : Addr) : Cx := { X with A := X.A.mark (some (.ref x)), calm := false, xe := fun _ _ => False }
theorem Cx.Ok.inX {X : Cx} (ok : X.Ok) (x : Addr) : (X.inX x).Ok :=
  ⟨ok.mod, ok.kind, ok.glob, ok.blt, ok.above, ok.inj, ok.has, ok.cab, fun z => (by cases z), ok.frames, ok.stk, ok.exf, ok.bs, ok.bsz, ok.noex, ok.exfs, ok.funs, ok.frf⟩
section
variable {X : Cx} {pins : List (Addr × Obj)} {σ : St} {H : Hp} {s : Shared} {x C T : Addr} {od : Option Addr}
theorem Inv.inX (I : Inv X pins σ H s) (x : Addr) : Inv (X.inX x) pins σ H s := ⟨I.ok.inX x, I.os, I.bare, I.base, I.loc, I.cell, I.free, I.freeC, I.pin, I.hok, I.len⟩
theorem Inv.outX (I : Inv (X.inX x) pins σ H s) (ok : X.Ok) : Inv X pins σ H s := ⟨ok, I.os, I.bare, I.base, I.loc, I.cell, I.free, I.freeC, I.pin, I.hok, I.len⟩
theorem Inv.flight {M : Model} {A : Around} {E : Value → Shared → Prop} {Q : Unit → Shared → Prop} (I : Inv X pins σ H s) (hx : H x = some (XO x C od (.ref T))) (hT : H T = some (TBo T)) (q : ∀ s', Inv X pins σ H s' → Q () s') :
    wpAny M A (setFlight (.ref x) none) Q E s := by
  obtain ⟨vs, ho, h1, h6, h2⟩ := XO.ok.mp (I.hok x _ hx)
  obtain ⟨oT, ts, g0, d0, f0⟩ := TBo.ok.mp (I.hok T _ hT)
  have sz : 3 < ts.size := (Array.getElem?_eq_some_iff.mp f0).1
  unfold setFlight
  refine wpAny_bind (wpAny_field ho rfl h1 ?_)
  rw [if_pos (show (Value.ref T != Value.none) = true from by simp)]
  refine wpAny_setField g0 d0 sz (q _ ?_)
  have t0 := Heap.get?_update_self (h := s.heap) (Obj.mapFields (·.setIfInBounds 3 ((none : Option Addr).elim Value.none fun f => rawInt f))) g0 (Obj.isFreed_of_fields (Obj.data_mapFields d0 _))
  have W := I.write (x := T) (e := T) (o := TBo T) (t' := s.toks) (h' := s.heap.update T (Obj.mapFields (·.setIfInBounds 3 ((none : Option Addr).elim Value.none fun f => rawInt f)))) (by rw [hT]; exact True.intro) (.inl rfl)
    (fun b u hb z => (Heap.get?_update_other _ _ (Ne.symm hb)).trans z) ⟨_, t0⟩ (TBo.ok.mpr ⟨_, _, t0, Obj.data_mapFields d0 _, by simp [sz]⟩)
  rwa [upd_self hT] at W
theorem Inv.lost {h' : Heap} {m' : Str → Option Value} {t' : Nat} (I : Inv X pins σ H s) (hn : h'.Ns X.env.locals m') (hs : Heap.SameBut X.env.locals s.heap h') : Inv X pins (σ.map fun _ => none) H { s with heap := h', toks := t' } := by
  have neL : ∀ b o, X.s₀.heap.get? b = some o → b ≠ X.env.locals := fun b o e => Nat.ne_of_lt (Nat.lt_of_lt_of_le (Heap.lt_size e) I.ok.above)
  refine ⟨I.ok, I.os, I.bare, ⟨fun b o e n hb hx => (hs.2 b (neL b o e)).trans (I.base.keep b o e n hb hx), fun b o e n hb hx => ?_, I.base.free, fun b o e hx => ?_, I.base.tups, I.base.frzs, I.base.tbls⟩, ⟨m', hn, fun j y v e1 e2 _ => ?_⟩, fun y c e => ?_, I.free, I.freeC, fun p hp => ?_, fun b u e => ?_, by simpa using I.len⟩
  · obtain ⟨sl, e1⟩ := I.base.slot b o e n hb hx
    exact ⟨sl, (hs.2 b (neL b o e)).trans e1⟩
  · obtain ⟨o', e1⟩ := I.base.there b o e hx
    exact ⟨o', (hs.2 b (neL b o e)).trans e1⟩
  · rw [List.getElem?_map] at e2
    cases z : σ[j]? with
    | none => rw [z] at e2; cases e2
    | some _ => rw [z] at e2; cases e2
  · obtain ⟨w', z⟩ := I.cell y c e
    exact ⟨w', z.sameBut hs (I.cne y c e)⟩
  · obtain ⟨e, n, ne, nf, d⟩ := I.pin p hp
    exact ⟨(hs.2 p.1 ne).trans e, n, ne, nf, d⟩
  · refine (I.hok b u e).stay (fun c v hc q => (hs.2 c ?_).trans q) (fun _ q => q) fun _ _ q => q
    rintro rfl
    have := I.free
    rcases hc with rfl | hc
    · rw [this] at e; cases e
    · rw [this] at hc; cases hc
end
def tTry (K : Frag) (D : Addr) (i : Nat) (sp : Sp) (t : TA) (ts : Addr → TS) : TS := fun Dn σ H => t σ H fun vs H1 => sp vs H1 (fun _ H2 => Dn.nx σ H2) fun e od H2 => ∃ x C T, e = .ref x ∧ H2 x = some (XO x C od (.ref T)) ∧ H2 T = some (TBo T) ∧ T ≠ x ∧
  exmOne K (.ref C) (.ref D) = some true ∧ ∀ T2, H2 T2 = none → T2 ≠ x → ts x { nx := fun _ _ => False, rt := Dn.rt } (σ.set i (some (.ref x))) (upd (upd H2 x (XO x C od (.ref T2))) T2 (TBo T2))
section
variable {X : Cx} {k : Nat} {D : Addr} {f n dn : Str} {i : Nat} {p cp ep dp hp pos : Pos} {e : Expr} {es : List Expr} {t : TA} {ts : Addr → TS} {ps : List Str} {sp : Sp} {b0 : Stmt} {suite : List Stmt}
theorem ps_try (O : Own X.prog X.w X.K X.mg X.base (CXe X.prog X.w) k f ps sp) (hr : Room k X.A) (hst : X.stack = X.env :: X.outer) (hf : X.env.frame = some X.env.locals) (hg : Gl X f) (ha : PA X.nox (e :: es) t) (hD : Gl X dn) (hmD : X.mg dn = some (.ref D))
    (hN : X.N.Nodup) (hi : X.N[i]? = some n) (hx : X.env.scope.names.lookup n = some .local) (hsu : ∀ x, PSs (X.inX x) (b0 :: suite) (ts x)) (hdb : (f == ("__debug__" : Str)) = false := by decide) (hdd : (dn == ("__debug__" : Str)) = false := by decide)
    (he : starEach (e :: es) X.env = (false, eval e X.env) :: starEach es X.env := by rfl) (hpl : (backTo cp (starEach es X.env)).any (·.1) = false := by rfl) (hs : swapsWith (.Call (.Name f p) (e :: es) [] cp) none ep.line X.env = pure false := by rfl) :
    PS X (.Try [.Expr (.Call (.Name f p) (e :: es) [] cp) ep] [.ExceptHandler (some (.Name dn dp)) (some n) (b0 :: suite) hp] [] [] pos) (tTry X.K D i sp t ts) := by
  obtain ⟨fa, fd, F, hm, hk, hb⟩ := O
  intro pins s σ H Dn I h
  refine wpAny_Try_except (wpAny_execs_cons (wpAny_Expr_any (wpAny_Call_Name_kw (ld_glob I hg hm ?_ hdb)) I.quiet hs))
  refine PySem.W.callWith_K (h₀ := X.base) I.ok.mod.kin hk (wpAny_mono (ha cp pins s σ H _ (I.wish _) h) (fun us s1 ⟨vs, H1, I1, r, q⟩ => ⟨I1.kIn, ?_⟩) fun _ _ z => z.elim) he hpl
  have J1 := I1.unwish
  have hl : us.length = ps.length := by rw [← r.length]; exact F.len _ _ _ _ q
  have hbind := hb s1 us J1.kIn (by simpa using hl)
  rw [List.append_nil] at hbind
  refine wpAny_call (codeAny_mono (F.run X.A X.stack s1 H1 ⟨us, []⟩ us vs _ _ hr J1.env0 hbind r q) fun r' s' z => ?_)
  cases r' with
  | ok fl =>
    cases fl with
    | ret u =>
      obtain ⟨v, H', I3, rv, q3⟩ := J1.after z
      exact wpAny_execs_nil (wpAny_execs_nil ⟨σ, H', I3, q3⟩)
    | next => exact False.elim z
    | brk => exact False.elim z
    | cont => exact False.elim z
  | error ex =>
    obtain ⟨x, od, H2, rfl, os', bare, un, hok, x', C, T, e1, hxo, hT, hTx, hex, q⟩ := z
    cases e1
    have I2 : Inv X pins σ H2 s' := J1.call' (ch := []) os' un hok bare fun b z => absurd z (by simp)
    refine I2.noted hst hf hxo (.inr ⟨T, rfl, hT, hTx⟩) fun s3 T2 hT2 hne I3 => ?_
    have q := q T2 hT2 hne
    have I3' := I3.inX x
    have x3 : (upd (upd H2 x (XO x C od (.ref T2))) T2 (TBo T2)) x = some (XO x C od (.ref T2)) := by rw [upd_ne (Ne.symm hne), upd_same]
    obtain ⟨vs3, ho3, _⟩ := XO.ok.mp (I3.hok x _ x3)
    have LT : Looks (model X.prog X.w) s3.heap (typeOf (.ref x)) (.ref C) := (Looks.ld ho3).andThen .now
    refine wpAny_handleBy_cons (codeAny_handlers_test (ld_glob I3' hD hmD ?_ hdd)) (by intro z; cases z)
    refine (exm_one I3.kIn LT hex).here ?_
    refine codeAny_handlers_suite_as (I3'.flight x3 upd_same fun s4 I4 => ?_)
    refine store_ok (X := X.inX x) I4 hN hi (.inl hx) (v := .ref x) rfl (fun s5 I5 => ?_) (.inr hx)
    refine wpAny_mono (hsu x pins s5 _ _ _ I5 q) (fun fl s6 z => ?_) fun _ _ z => z.elim
    cases fl with
    | next => obtain ⟨_, _, _, z⟩ := z; exact z.elim
    | brk => obtain ⟨_, _, _, z⟩ := z; exact z.elim
    | cont => obtain ⟨_, _, _, z⟩ := z; exact z.elim
    | ret u =>
      obtain ⟨v, σ6, H6, I6, rv, q6⟩ := z
      have J6 := I6.outX I.ok
      obtain ⟨m6, hn6, _⟩ := J6.loc
      have hcls : (X.env.scope.kind == .class || (X.env.scope.kind == .module && X.env.locals != X.env.globals)) = false := by rw [I.ok.kind]; rfl
      exact wpAny_nameGoes hx hn6 hcls fun h' m' hn' sb => ⟨v, _, H6, J6.lost hn' sb, rv, q6⟩
end
end L2
namespace L2
open PySem PySem.Spec PyProof.Rows PySem.W
structure XKin (K : Frag) (C D : Addr) : Prop where
  cls : XCls K C D
  ha : findIn K (.ref C) "__class__" = some (some (.builtin "object.__class__"))
  hn : specialIn K (.builtin "object.__class__") "__get__" = some (some (.builtin "getset_descriptor.__get__"))
  htk : takesIn K (.builtin "object.__class__") = some true
section
variable {prog : Program} {w : World} {A : Around} {E : Value → Shared → Prop} {s : Shared} {K : Frag} {x C D dx : Addr} {vs : Array Value}
theorem exc_class {od : Obj} {Q : Option Value → Shared → Prop} (k : XKin K C D) (X : K.In s.heap) (hx : s.heap.get? x = some (excObj C (some dx) vs)) (ho : s.heap.get? dx = some od) (q : Q (some (.ref C)) { s with toks := s.toks + 1 }) :
    wpAny (model prog w) A (getAttr? (.ref x) "__class__") Q E s := by
  have I : InstAt s.heap x (excObj C (some dx) vs) C (some od) := ⟨hx, rfl, rfl, ho⟩
  obtain ⟨cd, hc, _, _⟩ := k.cls.cls
  have hf : findObj K C (some od) "__class__" = some (.bind (.builtin "getset_descriptor.__get__") (.builtin "object.__class__")) := findObj_data (by rw [hc]; rfl) k.ha k.hn k.htk
  have hm : mroIn K C (.type "object") = some true := by rw [xmro k.cls]; rfl
  obtain ⟨hp, g, d, t, os⟩ := s
  have L0 := I.type (M := model prog w)
  have L1 := looks_findIn (M := model prog w) X k.cls.ga
  have L2 := looks_findIn (M := model prog w) X k.cls.gh
  have L3 := looks_find (M := model prog w) X I hf
  have FG := PySem.F.excAttr_ValueError.ga
  unfold getAttr? getAttrBy? getAttrBy
  refine wpAny_bind (wpAny_mkText (wpAny_bind (wpAny_attempt (wpAny_holding (wpAny_bind (L0.at (wpAny_bind (L1.at ?_))))))))
  dsimp only
  rw [show (onTheHeap (Value.ref C) && Value.builtin "BaseException.__getattribute__" == Value.builtin "object.__getattribute__") = false from by rw [show (Value.builtin "BaseException.__getattribute__" == Value.builtin "object.__getattribute__") = false from by decide +kernel, Bool.and_false], if_neg (by decide)]
  refine wpAny_bind (Looks.at (show Looks (model prog w) hp (hookBefore (.ref C)) none from L2) (wpAny_bind (wpAny_attempt (wpAny_holding ?_))))
  unfold callGetattribute
  rw [if_neg (by decide)]
  unfold boundAndCalled
  rw [FG.bind]
  refine wpAny_bind (wpAny_pure (wpAny_call ?_))
  have sub : Looks (model prog w) hp (isInstance (.ref x) (.type "BaseException")) true := I.type.andThen (looks_mroIn X (by rw [xmro k.cls]; rfl))
  refine codeAny_call_builtin FG.plain F.entry_bexc_ga (@check_slot (model prog w) _ _ ⟨hp, g, d, t + 1, os⟩ "BaseException.__getattribute__" "BaseException" "__getattribute__" (.ref x) [.str "__class__" t] [] _ (by decide +kernel) (by decide +kernel) sub (F.args_bexc_ga (.ref x) (.str "__class__" t)) ?_)
  unfold Builtin.«object.__getattribute__»
  refine wpAny_bind (wpAny_pure (wpAny_bind (wpAny_pure (wpAny_bind (L0.at (wpAny_bind (L3.at ?_)))))))
  show wpAny _ _ (holding [Value.builtin "object.__class__"] (call (.builtin "getset_descriptor.__get__") [.builtin "object.__class__", .ref x, .ref C]) >>= ret) _ _ _
  refine wpAny_bind (wpAny_holding (wpAny_call (class_get (s := ⟨hp, g, d, t + 1, os⟩) X I hm (wpAny_pure ?_))))
  show wpAny _ _ (handedOut (.ref C)) _ _ _
  rw [handedOut_of rfl]
  exact wpAny_pure (wpAny_pure q)
theorem kitx_exc {od : Obj} (k : XKin K C D) : KitX K (.ref x) (.ref C) (fun h => h.get? x = some (excObj C (some dx) vs) ∧ h.get? dx = some od) where
  ty := fun _ _ _ p => (Looks.ld p.1).andThen .now
  it := fun _ _ X _ => by
    obtain ⟨nm, qn, N, bs, sn, sub, ab, col, dd, k0, k1, k2, k3, k5, e⟩ := k.cls.obj X
    intro A' Q' E' s' kk q
    unfold isType loadHead
    exact wpAny_bind (wpAny_loadPart (kk _ _ e) (wpAny_pure q))
  ne := fun h tp dd its n sl X htp => by
    obtain ⟨nm, qn, N, bs, sn, sub, ab, col, dd', k0, k1, k2, k3, k5, e⟩ := k.cls.obj X
    refine Bool.eq_false_iff.mpr fun q => ?_
    have z : C = tp := Value.ref.inj (beq_iff_eq.mp q)
    subst z
    rw [e] at htp
    have z2 := congrArg Obj.data (Option.some.inj htp)
    cases z2
  ca := fun X p q => exc_class k X p.1 p.2 q
end
section
variable {X : Cx}
theorem call_isiX : CallR X (.builtin "isinstance") (fun xs H Q => ∃ (a C D D2 dx : Addr) (tb : Value) (fs : List (Str × V)) (b : Bool), xs = [.ref a, .ref D2] ∧ H a = some (XO a C (some dx) tb) ∧ H dx = some (.xd fs) ∧ XKin X.K C D ∧ kitOne X.K (.ref C) (.ref D2) = some b ∧ Q (.bl b) H) := by
  intro pins s σ H xs us Q I r h
  obtain ⟨a, C, D, D2, dx, tb, fs, b, rfl, ha, hd, k, ho, q⟩ := h
  obtain ⟨v, v2, rfl, rv, rt⟩ := r.two
  cases rv
  cases rt
  obtain ⟨vs, o1, _⟩ := XO.ok.mp (I.hok a _ ha)
  obtain ⟨mA, ⟨od, es, ep, o2, _⟩, _⟩ := (show ∃ mA, s.heap.Ns1 dx mA ∧ ∀ f, RelO (fs.lookup f) (mA f) from I.hok dx _ hd)
  exact kia_one (kitx_exc k) I.kIn ⟨o1, o2⟩ ho (fun z => nomatch z) fun tk => ⟨.bl b, H, I.tok _, rfl, q⟩
end
end L2
namespace L2
open PySem PySem.Spec PyProof.Rows PySem.W
theorem entry_unchain : entryFor table "proto.unchain" = some Builtin.«proto.unchain» := entryFor_of_tree (by kernel_rfl)
section
variable {prog : Program} {w : World} {A : Around} {E : Value → Shared → Prop} {s : Shared} {x : Addr} {ox : Obj} {vs : Array Value}
theorem next_endH {it l : Addr} {i : Nat} {items : Array Value} {Q : Option Value → Shared → Prop} (hh : A.handled = some (.ref x)) (hxo : s.heap.get? x = some ox) (hxd : ox.data = .fields vs) (hx2 : vs[2]? = some .none) (hxi : x ≠ it)
    (hit : s.heap.IsListIter it l i) (hl : s.heap.IsList l items) (hn : items[i]? = none) (q : ∀ h', Heap.ExtBut it s.heap h' → Q none { s with heap := h' }) : wpAny (model prog w) A (pyNext (.ref it)) Q E s := by
  obtain ⟨o, ho, hc, hd⟩ := id hit
  obtain ⟨ol, hol, _, nl, hdl⟩ := hl
  unfold pyNext
  refine wpAny_bind (wpAny_attempt (wpAny_callSpecial?_slot (name := Str.ofString "__next__") hit.typeIs slot_listiter_next (wpAny_call_entry slot_listiter_next hit.typeIs entry_listiter_next ?_ (args_listiter_next _))))
  show wpAny _ _ (field (.ref it) 0 >>= _) _ _ s
  refine wpAny_bind (wpAny_field ho hd (x := .ref l) rfl ?_)
  show wpAny _ _ (if (Value.ref l == Value.none) = true then _ else _) _ _ s
  rw [if_neg (show ¬ ((Value.ref l == Value.none) = true) from Bool.false_ne_true)]
  show wpAny _ _ (field (.ref it) 1 >>= _) _ _ s
  refine wpAny_bind (wpAny_field ho hd (x := .int i 0) rfl ?_)
  show wpAny _ _ (seqItems? (.ref l) >>= _) _ _ s
  refine wpAny_bind (wpAny_seqItems hol hdl ?_)
  simp only [Int.toNat_natCast, hn]
  refine wpAny_bind (wpAny_rule (wpAny_bind (wpAny_setField ho hd (by simp) ?_)))
  show wpAny _ _ (newExc (.type "StopIteration") [] >>= _) _ _ _
  refine wpAny_bind ?_
  simp only [newExc, newTuple]
  refine wpAny_bind (wpAny_newObj_type ?_ (by size_fits))
  refine wpAny_bind (m := firstArgMember _ _) (wpAny_of_eq (a := Value.none) (by first | rfl | (simp only [firstArgMember]; rfl)) ?_)
  refine wpAny_newObj_type ?_ (by size_fits)
  simp only [raiseNew]
  refine wpAny_bind (wpAny_handled ?_)
  rw [show A.in1.handled = some (.ref x) from hh]
  have ext := ((Heap.SameBut.update (h := s.heap) (a := it) (f := Obj.mapFields (·.setIfInBounds 0 Value.none))).extBut.push { cls := .type "tuple", data := .seq ([] : List Value).toArray })
  generalize hg : (s.heap.update it (Obj.mapFields fun x => x.setIfInBounds 0 Value.none)).push { cls := Value.type "tuple", data := Data.seq ([] : List Value).toArray } = g at ext ⊢
  have hxg : g.get? x = some ox := ext x ox hxi hxo
  have ne : x ≠ g.objs.size := Nat.ne_of_lt (Heap.lt_size hxg)
  dsimp only
  rw [if_pos (show (Value.ref x != Value.ref g.objs.size) = true from by simp [ne])]
  refine wpAny_bind (wpAny_holding (wpAny_runValue (codeAny_builtin entry_unchain ?_)))
  unfold Builtin.«proto.unchain»
  refine wpAny_bind (wpAny_field (Heap.get?_push_of_some _ hxg) hxd hx2 ?_)
  rw [if_pos (by decide)]
  refine wpAny_pure ?_
  refine wpAny_bind ?_
  show wpAny _ _ (setField (.ref g.objs.size) 2 (.ref x)) _ _ _
  refine wpAny_setField (Heap.get?_push_size g rfl) rfl (by rw [Array.size_append]; show 2 < 6 + _; omega) (wpAny_throw ?_)
  refine wpAny_bind (wpAny_isInstance (T := "StopIteration") (b := true) ⟨_, Heap.get?_update_self _ (Heap.get?_push_size g rfl) rfl, rfl⟩ isSubtype_stop (wpAny_pure (q _ ?_)))
  intro b o hb e
  rw [Heap.get?_update_other _ _ (Nat.ne_of_gt (Heap.lt_size (ext b o hb e)))]
  exact Heap.get?_push_of_some _ (ext b o hb e)
theorem walks_listH (hh : A.handled = some (.ref x)) (hxd : ox.data = .fields vs) (hx2 : vs[2]? = some .none) (I ax : Addr) (hne : ax ≠ I) (hxi : x ≠ I) (items : Array Value) :
    Walks prog w A I [I, ax, x] [I] items.size (fun i v => items[i]? = some v) (fun i h => h.IsListIter I ax i ∧ h.IsList ax items ∧ h.get? x = some ox) where
  sub := fun b hb => by simp at hb; simp [hb]
  frame := fun _ _ _ st hk => ⟨st.1.at fun o e => hk I (by simp) o e, st.2.1.at fun o e => hk ax (by simp) o e, hk x (by simp) _ st.2.2⟩
  item := fun i s Q E hi st hQ => by
    refine wpAny_pyNext_list_item st.1 st.2.1 (x := items[i]) (by simp [hi]) fun h' hit' hs' => ?_
    exact hQ _ h' s.toks (by simp [hi]) ⟨hit', st.2.1.extBut hs'.extBut hne, hs'.extBut x _ hxi st.2.2⟩ fun b o hb e => hs'.extBut b o (fun h => hb (by simp [h])) e
  done := fun s Q E st hQ => next_endH hh st.2.2 hxd hx2 hxi st.1 st.2.1 (by simp) fun h' he' => hQ h' s.toks fun b o hb e => he' b o (fun h => hb (by simp [h])) e
  self := fun _ _ _ _ st hQ => wpAny_pyIter_listiter st.1 hQ
end
theorem call_anyX {X : Cx} {x : Addr} (hc : X.A.handled = none) : CallR (X.inX x) (.builtin "any") (fun xs H Q => ∃ (p : Addr) (bs : List Bool) (C : Addr) (od : Option Addr) (tb : Value), xs = [.ref p] ∧ SqL X.K H p (bs.map V.bl) ∧ H x = some (XO x C od tb) ∧ Q (.bl (bs.any id)) H) := by
  intro pins s σ H xs us Q I r h
  obtain ⟨p, bs, C, od, tb, rfl, hp, hx, q⟩ := h
  obtain ⟨u, rfl, ru⟩ := vals1 r
  cases ru
  obtain ⟨its, rv, pl, hz⟩ := I.list (X := X.inX x) hp
  obtain ⟨vs, ho, _, _, h2⟩ := XO.ok.mp (I.hok x _ hx)
  have hlt := plain_lt pl
  have hlen : its.toArray.size = bs.length := by have := rv.length; simp at this; simp; omega
  have hh : (X.inX x).A.in1.handled = some (.ref x) := by show (some (Value.ref x)).or X.A.handled = _; rfl
  refine call_any_walk (wpAny_pyIter_list pl.isList ?_)
  refine ⟨s.heap.objs.size, _, [s.heap.objs.size], its.toArray.size, _, _, fun i => bs.getD i false, rfl, walks_listH (A := (X.inX x).A.in1) hh (ox := excObj C od vs) rfl h2 s.heap.objs.size p (Nat.ne_of_lt hlt) (Nat.ne_of_lt (Heap.lt_size ho)) its.toArray,
    ⟨⟨_, Heap.get?_push_size _ rfl, rfl, rfl⟩, pl.isList.push _, Heap.get?_push_of_some _ ho⟩, truth_bools (X := X.inX x) rv, fun h' tk hk => ?_⟩
  rw [hlen, range_any]
  exact ⟨.bl _, H, I.kept fun b o e => hk b o (fun z => Nat.ne_of_lt (Heap.lt_size e) (List.mem_singleton.mp z)) (Heap.get?_push_of_some _ e), rfl, q⟩
end L2
namespace J
open PySem L2
def top (i : Nat) : Stmt := PySem.Challenge.pw_jostle_k01_exchanged.main.body.getD i (.Pass ⟨0, 0, 0, 0⟩)
abbrev s_Minding_init : Stmt := inClass (top 6) 0
abbrev s_is_number : Stmt := top 8
abbrev s_is_number_below : Stmt := top 9
abbrev s_is_list_below : Stmt := top 10
abbrev s_is_row : Stmt := top 11
abbrev s_is_pair : Stmt := top 12
abbrev s_check_kinds : Stmt := top 13
abbrev s_check_pair : Stmt := top 14
abbrev s_check_kind : Stmt := top 15
abbrev s_check_row : Stmt := top 16
abbrev s_check_places : Stmt := top 17
abbrev s_Minds_init : Stmt := inClass (top 19) 0
abbrev s_Minds_pairs : Stmt := inClass (top 19) 1
abbrev s_Minds_mind : Stmt := inClass (top 19) 2
abbrev s_pairs_kept : Stmt := top 20
abbrev s_kinds_nearby : Stmt := top 21
abbrev s_exchanged : Stmt := top 22
abbrev s_had : Stmt := top 23
abbrev s_law_minds : Stmt := top 25
abbrev s_law_mind : Stmt := top 26
abbrev s_law_row : Stmt := top 27
abbrev s_law_part : Stmt := top 28
abbrev s_law_walked : Stmt := top 29
abbrev s_law_at : Stmt := top 30
abbrev s_law_kept : Stmt := top 31
abbrev s_law : Stmt := top 32
end J
namespace J
open PySem L2
structure Blt (mg : Str → Option Value) : Prop where
  min : mg "min" = none
  max : mg "max" = none
  len : mg "len" = none
  sum : mg "sum" = none
  range : mg "range" = none
  sorted : mg "sorted" = none
  set : mg "set" = none
  list : mg "list" = none
  dict : mg "dict" = none
  isinstance : mg "isinstance" = none
  int : mg "int" = none
  bool : mg "bool" = none
  tuple : mg "tuple" = none
  enumerate : mg "enumerate" = none
  any : mg "any" = none
  all : mg "all" = none
  reversed : mg "reversed" = none
  zip : mg "zip" = none
theorem bo_min : bootBuiltins "min" = some (.builtin "min") := by decide +kernel
theorem bo_max : bootBuiltins "max" = some (.builtin "max") := by decide +kernel
theorem bo_len : bootBuiltins "len" = some (.builtin "len") := by decide +kernel
theorem bo_sum : bootBuiltins "sum" = some (.builtin "sum") := by decide +kernel
theorem bo_any : bootBuiltins "any" = some (.builtin "any") := by decide +kernel
theorem bo_sorted : bootBuiltins "sorted" = some (.builtin "sorted") := by decide +kernel
theorem bo_isinstance : bootBuiltins "isinstance" = some (.builtin "isinstance") := by decide +kernel
theorem bo_set : bootBuiltins "set" = some (.type "set") := by decide +kernel
theorem bo_list : bootBuiltins "list" = some (.type "list") := by decide +kernel
theorem bo_int : bootBuiltins "int" = some (.type "int") := by decide +kernel
theorem bo_bool : bootBuiltins "bool" = some (.type "bool") := by decide +kernel
theorem bo_tuple : bootBuiltins "tuple" = some (.type "tuple") := by decide +kernel
def onI (f : Int → Int) : V → V
  | .int z => .int (f z)
  | v => v
def onB (p : Int → Bool) : V → Bool
  | .int z => p z
  | _ => false
theorem filt_int (ns : List Int) (p : Int → Bool) : ((ns.map V.int).filter (onB p)) = (ns.filter p).map V.int := by
  rw [List.filter_map]
  rfl
theorem map_int (ns : List Int) (f : Int → Int) : (ns.map V.int).map (onI f) = (ns.map f).map V.int := by
  rw [List.map_map, List.map_map]
  rfl
structure Txt (K : PySem.W.Frag) (mg : Str → Option Value) (CM : Addr) : Prop extends Blt mg where
  c_Minds : Cls K CM
  nKinds : NoAttr K CM "kinds"
  nPaired : NoAttr K CM "paired"
  nNearby : NoAttr K CM "nearby"
theorem kp_ne : ¬ (("kinds" : Str) = "paired") := by decide +kernel
theorem kn_ne : ¬ (("kinds" : Str) = "nearby") := by decide +kernel
theorem pn_ne : ¬ (("paired" : Str) = "nearby") := by decide +kernel
def flds (kinds : Int) (pd nd : Addr) : List (Str × V) := putF "nearby" (.ref nd) (putF "paired" (.ref pd) (putF "kinds" (.int kinds) []))
theorem flds_kinds (k : Int) (pd nd : Addr) : (flds k pd nd).lookup ("kinds" : Str) = some (.int k) := by
  unfold flds; rw [lookup_putF, if_neg kn_ne, lookup_putF, if_neg kp_ne, lookup_putF, if_pos rfl]
theorem flds_paired (k : Int) (pd nd : Addr) : (flds k pd nd).lookup ("paired" : Str) = some (.ref pd) := by
  unfold flds; rw [lookup_putF, if_neg pn_ne, lookup_putF, if_pos rfl]
theorem flds_no (k : Int) (pd nd : Addr) {m : Str} (h1 : ¬ m = "nearby") (h2 : ¬ m = "paired") (h3 : ¬ m = "kinds") : (flds k pd nd).lookup m = none := by
  unfold flds; rw [lookup_putF, if_neg h1, lookup_putF, if_neg h2, lookup_putF, if_neg h3]; rfl
def keyP (p : List Int) : List Key := p.map Sum.inl
def prs (ps : List (List Int)) : List (List Key × V) := ps.map fun p => (keyP p, V.bl true)
def ones (ks : List Int) : List (Key × V) := ks.map fun k => (Sum.inl k, V.bl true)
def nearTo (ps : List (List Int)) (k j : Int) : Prop := [k, j] ∈ ps ∨ [j, k] ∈ ps
def NearR (H : Hp) (nk : List (Key × V)) (n : Nat) (r : Int → Int → Prop) : Prop := ∀ k : Int, (valV nk (Sum.inl k) = none ∧ ∀ j, ¬ r k j) ∨
  ∃ (d : Addr) (ks : List Int), valV nk (Sum.inl k) = some (.ref d) ∧ H d = some (.dK (ones ks)) ∧ ks.Nodup ∧ ks.length ≤ n ∧ ∀ j, j ∈ ks ↔ r k j
abbrev NearAt (H : Hp) (nk : List (Key × V)) (ps : List (List Int)) : Prop := NearR H nk 1000 (nearTo ps)
structure MindsAt (CM : Addr) (H : Hp) (m : Addr) (kinds : Int) (ps : List (List Int)) : Prop where
  ex : ∃ dx pd nd nk, H m = some (.ins CM dx (flds kinds pd nd)) ∧ H pd = some (.dT (prs ps)) ∧ H nd = some (.dK nk) ∧ NearAt H nk ps
theorem NearR.same {H H' : Hp} {nk : List (Key × V)} {n : Nat} {r : Int → Int → Prop} (h : NearR H nk n r) (s : Same H H') : NearR H' nk n r := fun k => by
  rcases h k with h | ⟨d, ks, h1, h2, h3⟩
  · exact .inl h
  · exact .inr ⟨d, ks, h1, s _ _ h2, h3⟩
theorem MindsAt.same {CM : Addr} {H H' : Hp} {m : Addr} {kinds : Int} {ps : List (List Int)} (h : MindsAt CM H m kinds ps) (s : Same H H') : MindsAt CM H' m kinds ps := by
  obtain ⟨dx, pd, nd, nk, h1, h2, h3, h4⟩ := h.ex
  exact ⟨dx, pd, nd, nk, s _ _ h1, s _ _ h2, s _ _ h3, h4.same s⟩
def tupAt : Hp → V → List Int → Prop := fun H x ns => ∃ p, x = .ref p ∧ H p = some (.tup (ns.map V.int))
def PairsAt (K : PySem.W.Frag) (H : Hp) (pl : Addr) (ps : List (List Int)) : Prop := ∃ xs, SqL K H pl xs ∧ Paired (tupAt H) xs ps
theorem tupAt.en {K : PySem.W.Frag} {H : Hp} {x : V} {ns : List Int} (h : tupAt H x ns) : enT K enI H x ns := by
  obtain ⟨p, rfl, e⟩ := h
  exact enT_ints (SqT.of e)
theorem PairsAt.en {K : PySem.W.Frag} {H : Hp} {pl : Addr} {ps : List (List Int)} (h : PairsAt K H pl ps) : enP K H (.ref pl) ps := by
  obtain ⟨xs, e, p⟩ := h
  exact ⟨pl, xs, rfl, e, Paired.mapP p fun _ _ r => r.en⟩
theorem PairsAt.same {K : PySem.W.Frag} {H H' : Hp} {pl : Addr} {ps : List (List Int)} (h : PairsAt K H pl ps) (s : Same H H') : PairsAt K H' pl ps := by
  obtain ⟨xs, e, p⟩ := h
  exact ⟨xs, s.seq e, Paired.mapP p fun _ _ ⟨q, r, z⟩ => ⟨q, r, s _ _ z⟩⟩
def okPair (kinds : Int) (p : List Int) : Prop := ∃ a b, p = [a, b] ∧ 0 ≤ a ∧ a < b ∧ b < kinds
structure MindsOk (kinds : Int) (ps : List (List Int)) : Prop where
  pos : 1 ≤ kinds
  top : kinds ≤ 64
  nd : ps.Nodup
  ok : ∀ p ∈ ps, okPair kinds p
  few : ps.length ≤ 64
theorem keyP_kV (p : List Int) : (keyP p).map kV = p.map V.int := by
  unfold keyP; rw [List.map_map]; rfl
theorem keyP_inj {p q : List Int} (h : keyP p = keyP q) : p = q := by
  unfold keyP at h
  induction p generalizing q with
  | nil => cases q with
    | nil => rfl
    | cons _ _ => simp at h
  | cons a p ih => cases q with
    | nil => simp at h
    | cons b q => 
      simp only [List.map_cons, List.cons.injEq, Sum.inl.injEq] at h
      rw [h.1, ih h.2]
theorem Paired.at {α β : Type} {F : α → β → Prop} : ∀ {l₁ : List α} {l₂ : List β} {i : Nat} {x : α}, Paired F l₁ l₂ → l₁[i]? = some x → ∃ y, l₂[i]? = some y ∧ F x y
  | _, _, _, _, .nil, e => by simp at e
  | _, _, 0, _, .cons r _, e => by simp at e; subst e; exact ⟨_, rfl, r⟩
  | _, _, i + 1, x, .cons _ t, e => by
    obtain ⟨y, h1, h2⟩ := Paired.at (i := i) (x := x) t (by simpa using e)
    exact ⟨y, by simpa using h1, h2⟩
end J
namespace J
open PySem L2
def below (b x : Int) : Bool := decide (0 ≤ x) && decide (x < b)
def spIsNumber : Sp := fun vs H Q _ => ∃ i, vs = [.int i] ∧ Q (.bl true) H
def spBelow : Sp := fun vs H Q _ => ∃ i b, vs = [.int i, .int b] ∧ Q (.bl (below b i)) H
def spListBelow (K : PySem.W.Frag) : Sp := fun vs H Q _ => ∃ (a : Addr) (ns : List Int) (b : Int), vs = [.ref a, .int b] ∧ SqL K H a (ns.map V.int) ∧ Q (.bl (ns.all (below b))) H
def spIsRow (K : PySem.W.Frag) (CM : Addr) : Sp := fun vs H Q _ => ∃ (m : Addr) (kinds : Int) (ps : List (List Int)) (a : Addr) (ns : List Int), vs = [.ref m, .ref a] ∧ MindsAt CM H m kinds ps ∧ SqL K H a (ns.map V.int) ∧ Q (.bl (ns.all (below kinds))) H
def spIsPair (K : PySem.W.Frag) : Sp := fun vs H Q _ => ∃ t a b kinds, vs = [.ref t, .int kinds] ∧ SqT K H t [.int a, .int b] ∧ 0 ≤ a ∧ a < b ∧ b < kinds ∧ Q (.bl true) H
def spCheckKinds : Sp := fun vs H Q _ => ∃ i, vs = [.int i] ∧ 1 ≤ i ∧ Q .non H
def spCheckPair (K : PySem.W.Frag) : Sp := fun vs H Q _ => ∃ t a b kinds, vs = [.ref t, .int kinds] ∧ SqT K H t [.int a, .int b] ∧ 0 ≤ a ∧ a < b ∧ b < kinds ∧ Q .non H
def spCheckKind (CM : Addr) : Sp := fun vs H Q _ => ∃ m kinds ps i, vs = [.ref m, .int i] ∧ MindsAt CM H m kinds ps ∧ 0 ≤ i ∧ i < kinds ∧ Q .non H
def spCheckRow (K : PySem.W.Frag) (CM : Addr) : Sp := fun vs H Q _ => ∃ (m : Addr) (kinds : Int) (ps : List (List Int)) (a : Addr) (ns : List Int), vs = [.ref m, .ref a] ∧ MindsAt CM H m kinds ps ∧ SqL K H a (ns.map V.int) ∧ (∀ x ∈ ns, 0 ≤ x ∧ x < kinds) ∧ Q .non H
theorem below_of {b x : Int} (h1 : 0 ≤ x) (h2 : x < b) : below b x = true := by simp [below, h1, h2]
theorem all_below {b : Int} {ns : List Int} (h : ∀ x ∈ ns, 0 ≤ x ∧ x < b) : ns.all (below b) = true := List.all_eq_true.mpr fun x hx => below_of (h x hx).1 (h x hx).2
section
variable {P : Program} {w : World} {K : PySem.W.Frag} {mg : Str → Option Value} {base : Heap} {CM : Addr}
abbrev N_is_number : List Str := ["value"]
theorem sc_is_number : FnScope N_is_number ["value"] (defScope s_is_number) := ⟨rfl, rfl, rfl, by decide +kernel, rfl, by decide +kernel, by decide +kernel⟩
theorem ok_is_number (D : Def K mg "is_number" s_is_number ["value"]) (T : Blt mg) : Own P w K mg base CX0 1 "is_number" ["value"] spIsNumber := D.own fun f fd F => by
  refine F.ok sc_is_number (fun vs H Q E h => ?_) (fun cdv A outer s H vs Q E hr h => ?_)
  · obtain ⟨i, rfl, _⟩ := h
    rfl
  · obtain ⟨i, rfl, k⟩ := h
    refine ⟨_, (pss_one (ps_ret (pe_and (pe_callB (call_isiK (K := K) rfl) (by rfl) T.isinstance bo_isinstance (pa_cons (pv 0) (pa_cons (pe_bltn (v := V.ty "int") (by rfl) T.int bo_int rfl) pa_nil))) (pe_one (pe_not (pe_callB (call_isiK (K := K) rfl) (by rfl) T.isinstance bo_isinstance (pa_cons (pv 0) (pa_cons (pe_bltn (v := V.ty "bool") (by rfl) T.bool bo_bool rfl) pa_nil)))))))), ?_⟩
    exact ⟨_, rfl, _, "int", "int", true, rfl, rfl, isi_int_int, _, rfl, iteT ⟨_, rfl, _, "int", "bool", false, rfl, rfl, isi_int_bool, _, rfl, k⟩⟩
abbrev N_is_number_below : List Str := ["value", "bound"]
theorem sc_is_number_below : FnScope N_is_number_below ["value", "bound"] (defScope s_is_number_below) := ⟨rfl, rfl, rfl, by decide +kernel, rfl, by decide +kernel, by decide +kernel⟩
theorem ok_is_number_below (D : Def K mg "is_number_below" s_is_number_below ["value", "bound"]) (O_is_number : Own P w K mg base CX0 1 "is_number" ["value"] spIsNumber) : Own P w K mg base CX0 2 "is_number_below" ["value", "bound"] spBelow := D.own fun f fd F => by
  refine F.ok sc_is_number_below (fun vs H Q E h => ?_) (fun cdv A outer s H vs Q E hr h => ?_)
  · obtain ⟨i, b, rfl, _⟩ := h
    rfl
  · obtain ⟨i, b, rfl, k⟩ := h
    refine ⟨_, (pss_one (ps_ret (pe_and (pe_own O_is_number (hr.mono (by decide)) (by rfl) pass0 (pa_cons (pv 0) pa_nil)) (pe_one (pe_chain op_le op_lt pe_int (pv 0) (pv 1)))))), ?_⟩
    refine ⟨_, rfl, i, rfl, _, rfl, iteT ⟨_, rfl, _, _, rfl, rfl, _, rfl, ite2 (fun e => ?_) (fun e => ?_)⟩⟩
    · refine ⟨_, rfl, _, _, rfl, rfl, ?_⟩
      have : below b i = decide (i < b) := by simp [below, of_decide_eq_true e]
      rw [this] at k
      exact k
    · have : below b i = false := by simp only [below]; rw [show decide (0 ≤ i) = false by simpa using e]; rfl
      rw [this] at k
      exact k
abbrev N_is_list_below : List Str := ["values", "bound", "value"]
theorem sc_is_list_below : FnScope N_is_list_below ["values", "bound"] (defScope s_is_list_below) := ⟨rfl, rfl, rfl, by decide +kernel, rfl, by decide +kernel, by decide +kernel⟩
theorem ok_is_list_below (D : Def K mg "is_list_below" s_is_list_below ["values", "bound"]) (T : Blt mg) (O_is_number_below : Own P w K mg base CX0 2 "is_number_below" ["value", "bound"] spBelow) : Own P w K mg base CX0 3 "is_list_below" ["values", "bound"] (spListBelow K) := D.own fun f fd F => by
  refine F.ok sc_is_list_below (fun vs H Q E h => ?_) (fun cdv A outer s H vs Q E hr h => ?_)
  · obtain ⟨a, ns, b, rfl, _⟩ := h
    rfl
  · obtain ⟨a, ns, b, rfl, hS, k⟩ := h
    refine ⟨_, (pss_cons (ps_if (pt_not (pt_val (pe_callB (call_isiK (K := K) rfl) (by rfl) T.isinstance bo_isinstance (pa_cons (pv 0) (pa_cons (pe_bltn (v := V.ty "list") (by rfl) T.list bo_list rfl) pa_nil))) (fun _ => rfl))) (pss_one (ps_ret pe_bl)) pss_nil)
      (pss_cons (ps_for PassesOwn.never rfl (pi_list (pv 0)) (pg_name (i := 2) sc_is_list_below.nd rfl (by first | exact Or.inl rfl | exact Or.inr rfl)) (pss_one (ps_if (pt_not (pt_val (pe_own O_is_number_below (hr.mono (by decide)) (by rfl) pass0 (pa_cons (pv 2) (pa_cons (pv 1) pa_nil))) (fun _ => rfl))) (pss_one (ps_ret pe_bl)) pss_nil)))
      (pss_one (ps_ret pe_bl)))), ?_⟩
    refine ⟨_, rfl, _, "list", "list", true, rfl, .inl ⟨rfl, _, hS⟩, isi_list_list, _, rfl, iteF ?_⟩
    refine ⟨_, rfl, a, rfl, ⟨_, hS⟩, for_list (K := K) (a := a) (xs := ns.map V.int) (fun i σ H2 => H2 = H ∧ (∃ v, σ = [some (.ref a), some (.int b), v]) ∧ (ns.take i).all (below b) = true) ⟨rfl, ⟨_, rfl⟩, rfl⟩ (fun i σ H2 _ ⟨e, _⟩ => by rw [e]; exact hS) ?_ ?_⟩
    · rintro i y σ H2 hi ⟨rfl, ⟨v, rfl⟩, ht⟩
      obtain ⟨z, hz, rfl⟩ := get_int hi
      refine ⟨_, rfl, _, rfl, z, b, rfl, _, rfl, ?_⟩
      have e1 : ns.take (i + 1) = ns.take i ++ [z] := by rw [List.take_add_one, hz]; rfl
      cases hb : below b z with
      | true => exact iteF ⟨rfl, ⟨_, rfl⟩, by rw [e1, List.all_append, ht]; simp [hb]⟩
      | false =>
        refine iteT ?_
        have : ns.all (below b) = false := by
          rw [List.all_eq_false]
          exact ⟨z, List.mem_of_getElem? hz, by simp [hb]⟩
        rw [this] at k
        exact k
    · rintro σ H2 ⟨rfl, ⟨v, rfl⟩, ht⟩
      rw [List.length_map, List.take_length] at ht
      rw [ht] at k
      exact k
abbrev N_is_row : List Str := ["minds", "value"]
theorem sc_is_row : FnScope N_is_row ["minds", "value"] (defScope s_is_row) := ⟨rfl, rfl, rfl, by decide +kernel, rfl, by decide +kernel, by decide +kernel⟩
theorem ok_is_row (D : Def K mg "is_row" s_is_row ["minds", "value"]) (T : Txt K mg CM) (O_is_list_below : Own P w K mg base CX0 3 "is_list_below" ["values", "bound"] (spListBelow K)) : Own P w K mg base CX0 4 "is_row" ["minds", "value"] (spIsRow K CM) := D.own fun f fd F => by
  refine F.ok sc_is_row (fun vs H Q E h => ?_) (fun cdv A outer s H vs Q E hr h => ?_)
  · obtain ⟨m, kinds, ps, a, ns, rfl, _⟩ := h
    rfl
  · obtain ⟨m, kinds, ps, a, ns, rfl, hM, hS, k⟩ := h
    obtain ⟨dx, pd, nd, nk, h1, _⟩ := hM.ex
    refine ⟨_, (pss_one (ps_ret (pe_own O_is_list_below (hr.mono (by decide)) (by rfl) pass0 (pa_cons (pv 1) (pa_cons (pe_fld (pv 0) rfl) pa_nil))))), ?_⟩
    exact ⟨_, rfl, _, rfl, m, CM, dx, _, _, rfl, h1, T.c_Minds, T.nKinds, flds_kinds _ _ _, a, ns, kinds, rfl, hS, k⟩
abbrev N_is_pair : List Str := ["value", "kinds"]
theorem sc_is_pair : FnScope N_is_pair ["value", "kinds"] (defScope s_is_pair) := ⟨rfl, rfl, rfl, by decide +kernel, rfl, by decide +kernel, by decide +kernel⟩
theorem ok_is_pair (D : Def K mg "is_pair" s_is_pair ["value", "kinds"]) (T : Blt mg) (O_is_number_below : Own P w K mg base CX0 2 "is_number_below" ["value", "bound"] spBelow) : Own P w K mg base CX0 3 "is_pair" ["value", "kinds"] (spIsPair K) := D.own fun f fd F => by
  refine F.ok sc_is_pair (fun vs H Q E h => ?_) (fun cdv A outer s H vs Q E hr h => ?_)
  · obtain ⟨t, a, b, kinds, rfl, _⟩ := h
    rfl
  · obtain ⟨t, a, b, kinds, rfl, hT, h0, h1, h2, k⟩ := h
    refine ⟨_, (pss_cons (ps_if (PW.pt (pw_or (pt_not (pt_val (pe_callB (call_isiK (K := K) rfl) (by rfl) T.isinstance bo_isinstance (pa_cons (pv 0) (pa_cons (pe_bltn (v := V.ty "tuple") (by rfl) T.tuple bo_tuple rfl) pa_nil))) (fun _ => rfl))) (pw_or1 (pt_cmpR op_ne (pe_callB call_len_seq (by rfl) T.len bo_len (pa_cons (pv 0) pa_nil)) pe_int (nomark _))))) (pss_one (ps_ret pe_bl)) pss_nil)
      (pss_cons (ps_if (PW.pt (pw_or (pt_not (pt_val (pe_own O_is_number_below (hr.mono (by decide)) (by rfl) pass0 (pa_cons (pe_ix (r := rIxT K) ix_tup (pv 0) pe_int (fun _ _ => rfl)) (pa_cons (pv 1) pa_nil))) (fun _ => rfl))) (pw_or1 (pt_not (pt_val (pe_own O_is_number_below (hr.mono (by decide)) (by rfl) pass0 (pa_cons (pe_ix (r := rIxT K) ix_tup (pv 0) pe_int (fun _ _ => rfl)) (pa_cons (pv 1) pa_nil))) (fun _ => rfl)))))) (pss_one (ps_ret pe_bl)) pss_nil)
      (pss_one (ps_ret (pe_cmpR op_lt (pe_ix (r := rIxT K) ix_tup (pv 0) pe_int (fun _ _ => rfl)) (pe_ix (r := rIxT K) ix_tup (pv 0) pe_int (fun _ _ => rfl)) (nomark _)))))), ?_⟩
    refine ⟨_, rfl, _, "tuple", "tuple", true, rfl, .inr (.inl ⟨rfl, _, hT⟩), isi_tuple_tuple, _, rfl, iteF ⟨_, rfl, t, _, rfl, .inr hT, rfl, _, rfl, iteF ?_⟩⟩
    refine ⟨_, rfl, t, _, _, _, rfl, rfl, hT, rfl, _, rfl, a, kinds, rfl, _, rfl, ?_⟩
    rw [below_of h0 (by omega)]
    refine iteF ⟨_, rfl, t, _, _, _, rfl, rfl, hT, rfl, _, rfl, b, kinds, rfl, _, rfl, ?_⟩
    rw [below_of (by omega) h2]
    refine iteF ⟨_, rfl, t, _, _, _, rfl, rfl, hT, rfl, _, rfl, t, _, _, _, rfl, rfl, hT, rfl, _, _, rfl, rfl, ?_⟩
    show Q (.bl (decide (a < b))) H
    rw [decide_eq_true h1]
    exact k
abbrev N_check_kinds : List Str := ["kinds"]
theorem sc_check_kinds : FnScope N_check_kinds ["kinds"] (defScope s_check_kinds) := ⟨rfl, rfl, rfl, by decide +kernel, rfl, by decide +kernel, by decide +kernel⟩
theorem ok_check_kinds (D : Def K mg "check_kinds" s_check_kinds ["kinds"]) (O_is_number : Own P w K mg base CX0 1 "is_number" ["value"] spIsNumber) : Own P w K mg base CX0 2 "check_kinds" ["kinds"] spCheckKinds := D.own fun f fd F => by
  refine F.ok sc_check_kinds (fun vs H Q E h => ?_) (fun cdv A outer s H vs Q E hr h => ?_)
  · obtain ⟨i, rfl, _⟩ := h
    rfl
  · obtain ⟨i, rfl, h1, k⟩ := h
    refine ⟨_, (pss_one (ps_if (PW.pt (pw_or (pt_not (pt_val (pe_own O_is_number (hr.mono (by decide)) (by rfl) pass0 (pa_cons (pv 0) pa_nil)) (fun _ => rfl))) (pw_or1 (pt_cmpR op_lt (pv 0) pe_int (nomark _))))) (pss_one ps_never) pss_nil)), ?_⟩
    refine ⟨_, rfl, i, rfl, _, rfl, iteF ⟨_, rfl, _, _, rfl, rfl, _, rfl, ?_⟩⟩
    rw [decide_eq_false (show ¬ i < 1 by omega)]
    exact iteF k
abbrev N_check_pair : List Str := ["pair", "kinds"]
theorem sc_check_pair : FnScope N_check_pair ["pair", "kinds"] (defScope s_check_pair) := ⟨rfl, rfl, rfl, by decide +kernel, rfl, by decide +kernel, by decide +kernel⟩
theorem ok_check_pair (D : Def K mg "check_pair" s_check_pair ["pair", "kinds"]) (O_is_pair : Own P w K mg base CX0 3 "is_pair" ["value", "kinds"] (spIsPair K)) : Own P w K mg base CX0 4 "check_pair" ["pair", "kinds"] (spCheckPair K) := D.own fun f fd F => by
  refine F.ok sc_check_pair (fun vs H Q E h => ?_) (fun cdv A outer s H vs Q E hr h => ?_)
  · obtain ⟨t, a, b, kinds, rfl, _⟩ := h
    rfl
  · obtain ⟨t, a, b, kinds, rfl, hT, h0, h1, h2, k⟩ := h
    refine ⟨_, (pss_one (ps_if (pt_not (pt_val (pe_own O_is_pair (hr.mono (by decide)) (by rfl) pass0 (pa_cons (pv 0) (pa_cons (pv 1) pa_nil))) (fun _ => rfl))) (pss_one ps_never) pss_nil)), ?_⟩
    exact ⟨_, rfl, _, rfl, t, a, b, kinds, rfl, hT, h0, h1, h2, _, rfl, iteF k⟩
abbrev N_check_kind : List Str := ["minds", "kind"]
theorem sc_check_kind : FnScope N_check_kind ["minds", "kind"] (defScope s_check_kind) := ⟨rfl, rfl, rfl, by decide +kernel, rfl, by decide +kernel, by decide +kernel⟩
theorem ok_check_kind (D : Def K mg "check_kind" s_check_kind ["minds", "kind"]) (T : Txt K mg CM) (O_is_number_below : Own P w K mg base CX0 2 "is_number_below" ["value", "bound"] spBelow) : Own P w K mg base CX0 3 "check_kind" ["minds", "kind"] (spCheckKind CM) := D.own fun f fd F => by
  refine F.ok sc_check_kind (fun vs H Q E h => ?_) (fun cdv A outer s H vs Q E hr h => ?_)
  · obtain ⟨m, kinds, ps, i, rfl, _⟩ := h
    rfl
  · obtain ⟨m, kinds, ps, i, rfl, hM, h1, h2, k⟩ := h
    obtain ⟨dx, pd, nd, nk, hm, _⟩ := hM.ex
    refine ⟨_, (pss_one (ps_if (pt_not (pt_val (pe_own O_is_number_below (hr.mono (by decide)) (by rfl) pass0 (pa_cons (pv 1) (pa_cons (pe_fld (pv 0) rfl) pa_nil))) (fun _ => rfl))) (pss_one ps_never) pss_nil)), ?_⟩
    refine ⟨_, rfl, _, rfl, m, CM, dx, _, _, rfl, hm, T.c_Minds, T.nKinds, flds_kinds _ _ _, i, kinds, rfl, _, rfl, ?_⟩
    rw [below_of h1 h2]
    exact iteF k
abbrev N_check_row : List Str := ["minds", "row"]
theorem sc_check_row : FnScope N_check_row ["minds", "row"] (defScope s_check_row) := ⟨rfl, rfl, rfl, by decide +kernel, rfl, by decide +kernel, by decide +kernel⟩
theorem ok_check_row (D : Def K mg "check_row" s_check_row ["minds", "row"]) (O_is_row : Own P w K mg base CX0 4 "is_row" ["minds", "value"] (spIsRow K CM)) : Own P w K mg base CX0 5 "check_row" ["minds", "row"] (spCheckRow K CM) := D.own fun f fd F => by
  refine F.ok sc_check_row (fun vs H Q E h => ?_) (fun cdv A outer s H vs Q E hr h => ?_)
  · obtain ⟨m, kinds, ps, a, ns, rfl, _⟩ := h
    rfl
  · obtain ⟨m, kinds, ps, a, ns, rfl, hM, hS, hb, k⟩ := h
    refine ⟨_, (pss_one (ps_if (pt_not (pt_val (pe_own O_is_row (hr.mono (by decide)) (by rfl) pass0 (pa_cons (pv 0) (pa_cons (pv 1) pa_nil))) (fun _ => rfl))) (pss_one ps_never) pss_nil)), ?_⟩
    refine ⟨_, rfl, _, rfl, m, kinds, ps, a, ns, rfl, hM, hS, _, rfl, ?_⟩
    rw [all_below hb]
    exact iteF k
end
end J
namespace J
open PySem L2
def spPairsKept (K : PySem.W.Frag) : Sp := fun vs H Q _ => ∃ (kinds : Int) (pl : Addr) (ps : List (List Int)), vs = [.int kinds, .ref pl] ∧ PairsAt K H pl ps ∧ MindsOk kinds ps ∧
  ∀ pd H', H pd = none → H' pd = some (.dT (prs ps)) → Same H H' → Q (.ref pd) H'
def spNearby : Sp := fun vs H Q _ => ∃ (kinds : Int) (pd : Addr) (ps : List (List Int)), vs = [.ref pd] ∧ H pd = some (.dT (prs ps)) ∧ MindsOk kinds ps ∧
  ∀ nd nk H', H nd = none → H' nd = some (.dK nk) → NearAt H' nk ps → Same H H' → Q (.ref nd) H'
theorem prs_none {ps : List (List Int)} {p : List Int} (h : p ∉ ps) : valV (prs ps) (keyP p) = none := by
  induction ps with
  | nil => rfl
  | cons q ps ih =>
    have h1 : ¬ keyP q = keyP p := fun e => h (by rw [keyP_inj e]; exact List.mem_cons_self)
    have h2 := ih fun z => h (List.mem_cons_of_mem _ z)
    simp only [prs, List.map_cons] at h2 ⊢
    unfold valV at h2 ⊢
    simp only [List.find?_cons, h1, decide_false] at h2 ⊢
    exact h2
section
variable {P : Program} {w : World} {K : PySem.W.Frag} {mg : Str → Option Value} {base : Heap} {CM : Addr}
abbrev N_pairs_kept : List Str := ["kinds", "pairs", "paired", "pair"]
theorem sc_pairs_kept : FnScope N_pairs_kept ["kinds", "pairs"] (defScope s_pairs_kept) := ⟨rfl, rfl, rfl, by decide +kernel, rfl, by decide +kernel, by decide +kernel⟩
theorem ok_pairs_kept (D : Def K mg "pairs_kept" s_pairs_kept ["kinds", "pairs"]) (T : Blt mg) (O_check_pair : Own P w K mg base CX0 4 "check_pair" ["pair", "kinds"] (spCheckPair K)) : Own P w K mg base CX0 5 "pairs_kept" ["kinds", "pairs"] (spPairsKept K) := D.own fun f fd F => by
  refine F.ok sc_pairs_kept (fun vs H Q E h => ?_) (fun cdv A outer s H vs Q E hr h => ?_)
  · obtain ⟨kinds, pl, ps, rfl, _⟩ := h
    rfl
  · obtain ⟨kinds, pl, ps, rfl, hP, ok, k⟩ := h
    obtain ⟨xs, hx, hp⟩ := hP
    have hlen := Paired.length hp
    refine ⟨_, (pss_cons (ps_if (pt_not (pt_val (pe_callB (call_isiK (K := K) rfl) (by rfl) T.isinstance bo_isinstance (pa_cons (pv 1) (pa_cons (pe_bltn (v := V.ty "list") (by rfl) T.list bo_list rfl) pa_nil))) (fun _ => rfl))) (pss_one ps_never) pss_nil)
      (pss_cons (ps_set (i := 2) sc_pairs_kept.nd rfl (by first | exact Or.inl rfl | exact Or.inr rfl) pe_dnewT)
      (pss_cons (ps_for PassesOwn.never rfl (pi_list (pv 1)) (pg_name (i := 3) sc_pairs_kept.nd rfl (by first | exact Or.inl rfl | exact Or.inr rfl)) (pss_cons (ps_expr (pe_own O_check_pair (hr.mono (by decide)) (by rfl) pass0 (pa_cons (pv 3) (pa_cons (pv 0) pa_nil))))
        (pss_cons (ps_if (pt_cmp (pc_din (hu_of hr) (pv 3) (pv 2))) (pss_one ps_never) pss_nil)
        (pss_one (ps_dput (hu_of hr) (pv 2) (pe_tup (pa_cons (pe_ix (r := rIxT K) ix_tup (pv 3) pe_int (fun _ _ => rfl)) (pa_cons (pe_ix (r := rIxT K) ix_tup (pv 3) pe_int (fun _ _ => rfl)) pa_nil))) pe_bl rfl)))))
      (pss_one (ps_ret (pv 2)))))), ?_⟩
    refine ⟨_, rfl, _, "list", "list", true, rfl, .inl ⟨rfl, _, hx⟩, isi_list_list, _, rfl, iteF ?_⟩
    intro pd hpd
    have s1 : Same H (upd H pd (.dT [])) := Same.new hpd
    refine ⟨_, rfl, pl, rfl, ⟨_, s1.seq hx⟩, for_list (K := K) (a := pl) (xs := xs) (fun i σ H2 => Same H H2 ∧ H2 pd = some (.dT (prs (ps.take i))) ∧ ∃ v, σ = [some (.int kinds), some (.ref pl), some (.ref pd), v]) ⟨s1, upd_same, _, rfl⟩ (fun i σ H2 _ ⟨e, _⟩ => e.seq hx) ?_ ?_⟩
    · rintro i y σ H2 hi ⟨s2, hd, v, rfl⟩
      obtain ⟨p, hpi, t, rfl, ht⟩ := Paired.at hp hi
      have hil : i < ps.length := (List.getElem?_eq_some_iff.mp hpi).1
      obtain ⟨a, b, rfl, h0, h1, h2⟩ := ok.ok p (List.mem_of_getElem? hpi)
      have ht2 := s2 _ _ ht
      refine ⟨_, rfl, _, rfl, t, a, b, kinds, rfl, SqT.of ht2, h0, h1, h2, ?_⟩
      have hn : [a, b] ∉ ps.take i := fun z => by
        obtain ⟨j, hj⟩ := List.mem_iff_getElem?.mp z
        have hjl : j < i := by
          have := (List.getElem?_eq_some_iff.mp hj).1
          rw [List.length_take] at this; omega
        rw [List.getElem?_take_of_lt hjl] at hj
        have e1 := (List.getElem?_eq_some_iff.mp hj)
        have e2 := (List.getElem?_eq_some_iff.mp hpi)
        have := (List.getElem_inj ok.nd).mp (e1.2.trans e2.2.symm)
        omega
      refine ⟨_, rfl, _, rfl, pd, _, rfl, DGet.t (k := keyP [a, b]) hd ht2, _, rfl, ?_⟩
      rw [prs_none hn]
      refine iteF ?_
      refine ⟨_, rfl, _, rfl, t, _, _, _, rfl, rfl, SqT.of ht2, rfl, _, rfl, t, _, _, _, rfl, rfl, SqT.of ht2, rfl, (by show 2 ≤ sizeLine; decide), fun u hu => ?_⟩
      have npu : pd ≠ u := ne_of_none hd hu
      refine ⟨pd, _, rfl, DPut.t (k := keyP [a, b]) (by rw [upd_ne npu]; exact hd) upd_same ?_, ?_⟩
      · rw [prs, List.length_map, List.length_take]
        exact Nat.lt_of_le_of_lt (Nat.le_trans (Nat.min_le_left _ _) (Nat.le_of_lt hil)) (Nat.lt_of_le_of_lt ok.few (by decide))
      · refine ⟨fun c o e => ?_, ?_, _, rfl⟩
        · rw [upd_ne (ne_of_none e hpd), upd_ne (ne_of_none (s2 _ _ e) hu)]
          exact s2 _ _ e
        · rw [upd_same, putK_new _ (prs_none hn), List.take_add_one, hpi]
          simp [prs]
    · rintro σ H2 ⟨s2, hd, v, rfl⟩
      rw [hlen, List.take_length] at hd
      exact ⟨_, rfl, k pd H2 hpd hd s2⟩
end
end J
namespace J
open PySem L2
theorem ones_val (ks : List Int) (j : Int) : valV (ones ks) (Sum.inl j) = if j ∈ ks then some (.bl true) else none := by
  induction ks with
  | nil => rfl
  | cons a ks ih =>
    unfold ones at ih ⊢
    rw [List.map_cons]
    by_cases e : a = j
    · subst e
      rw [valV_pos rfl, if_pos List.mem_cons_self]
    · rw [valV_neg (fun z => e (Sum.inl.inj z)), ih]
      by_cases h : j ∈ ks
      · rw [if_pos h, if_pos (List.mem_cons_of_mem _ h)]
      · rw [if_neg h, if_neg (fun z => (List.mem_cons.mp z).elim (fun q => e q.symm) h)]
theorem ones_put (ks : List Int) (j : Int) : putK (ones ks) (Sum.inl j) (.bl true) = if j ∈ ks then ones ks else ones (ks ++ [j]) := by
  by_cases h : j ∈ ks
  · rw [if_pos h]
    unfold putK
    rw [valV_any, ones_val, if_pos h]
    simp only [Option.isSome_some, if_true]
    unfold ones
    rw [List.map_map]
    apply List.map_congr_left
    intro a _
    simp only [Function.comp]
    split <;> rfl
  · rw [if_neg h, putK_new _ (by rw [ones_val, if_neg h])]
    simp [ones]
def addK (ks : List Int) (j : Int) : List Int := if j ∈ ks then ks else ks ++ [j]
theorem ones_add (ks : List Int) (j : Int) : putK (ones ks) (Sum.inl j) (.bl true) = ones (addK ks j) := by
  rw [ones_put]; unfold addK; split <;> rfl
theorem addK_nd {ks : List Int} {j : Int} (h : ks.Nodup) : (addK ks j).Nodup := by
  unfold addK; split
  · exact h
  · rename_i hj
    rw [List.nodup_append]
    exact ⟨h, by simp, fun a ha b hb => by simp at hb; subst hb; exact fun e => hj (e ▸ ha)⟩
theorem addK_mem {ks : List Int} {j x : Int} : x ∈ addK ks j ↔ x ∈ ks ∨ x = j := by
  unfold addK; split
  · rename_i h; exact ⟨.inl, fun z => z.elim id fun e => e ▸ h⟩
  · simp
theorem addK_len (ks : List Int) (j : Int) : (addK ks j).length ≤ ks.length + 1 := by
  unfold addK; split
  · exact Nat.le_succ _
  · simp
structure NInv (H H2 : Hp) (pd : Addr) (fo : Obj) (u : HO) (nd : Addr) (nk : List (Key × V)) (n : Nat) (r : Int → Int → Prop) : Prop where
  keep : ∀ b o, H b = some o → b ≠ pd → H2 b = some o
  frz : H2 pd = some (.frz fo u)
  top : H2 nd = some (.dK nk)
  near : NearR H2 nk n r
  new : ∀ k d, valV nk (Sum.inl k) = some (.ref d) → H d = none ∧ d ≠ nd
  inj : ∀ k k' d, valV nk (Sum.inl k) = some (.ref d) → valV nk (Sum.inl k') = some (.ref d) → k = k'
  len : nk.length ≤ n
theorem NInv.step {H H2 : Hp} {pd nd e : Addr} {fo : Obj} {u : HO} {nk : List (Key × V)} {n : Nat} {r : Int → Int → Prop} {k j : Int} (N : NInv H H2 pd fo u nd nk n r) (hnd : H nd = none) (he : H2 e = none) (hpd : H pd = some u) :
    (∀ d, valV nk (Sum.inl k) = some (.ref d) → ∃ ks, (upd H2 e (.dK [])) d = some (.dK (ones ks)) ∧ ks.length ≤ n ∧ NInv H (upd (upd H2 e (.dK [])) d (.dK (ones (addK ks j)))) pd fo u nd nk (n + 1) (fun a b => r a b ∨ (a = k ∧ b = j))) ∧
    (valV nk (Sum.inl k) = none → NInv H (upd (upd (upd H2 e (.dK [])) nd (.dK (putK nk (Sum.inl k) (.ref e)))) e (.dK (ones [j]))) pd fo u nd (putK nk (Sum.inl k) (.ref e)) (n + 1) (fun a b => r a b ∨ (a = k ∧ b = j))) := by
  have nee : nd ≠ e := ne_of_none N.top he
  have npe : pd ≠ e := ne_of_none N.frz he
  have npn : pd ≠ nd := ne_of N.frz N.top (by intro z; cases z)
  have He : H e = none := by
    cases q : H e with
    | none => rfl
    | some o =>
      have hne : e ≠ pd := fun z => npe z.symm
      have := N.keep e o q hne
      rw [he] at this; cases this
  refine ⟨fun d hd => ?_, fun hk => ?_⟩
  · rcases N.near k with ⟨hk, _⟩ | ⟨d', ks, h1, h2, h3, h4, h5⟩
    · rw [hk] at hd; cases hd
    rw [hd] at h1
    cases h1
    have nde : d ≠ e := ne_of_none h2 he
    obtain ⟨Hd, dnd⟩ := N.new k d hd
    have ndp : d ≠ pd := ne_of h2 N.frz (by intro z; cases z)
    refine ⟨ks, by rw [upd_ne nde]; exact h2, h4, ⟨fun b o q hb => ?_, ?_, ?_, fun a => ?_, N.new, N.inj, Nat.le_succ_of_le N.len⟩⟩
    · rw [upd_ne (ne_of_none q Hd), upd_ne (ne_of_none q He)]; exact N.keep b o q hb
    · rw [upd_ne (Ne.symm ndp), upd_ne npe]; exact N.frz
    · rw [upd_ne (Ne.symm dnd), upd_ne nee]; exact N.top
    · by_cases ha : a = k
      · subst ha
        refine .inr ⟨d, addK ks j, hd, upd_same, addK_nd h3, Nat.le_trans (addK_len _ _) (Nat.succ_le_succ h4), fun x => ?_⟩
        rw [addK_mem, h5 x]
        simp
      · rcases N.near a with ⟨g1, g2⟩ | ⟨d', ks', g1, g2, g3, g4, g5⟩
        · exact .inl ⟨g1, fun x z => z.elim (g2 x) fun q => ha q.1⟩
        · have : d' ≠ d := fun z => ha (N.inj a k d (z ▸ g1) hd)
          refine .inr ⟨d', ks', g1, by rw [upd_ne this, upd_ne (ne_of_none g2 he)]; exact g2, g3, Nat.le_succ_of_le g4, fun x => ?_⟩
          rw [g5 x]
          simp [ha]
  · have hv : ∀ a, valV (putK nk (Sum.inl k : Key) (.ref e)) (Sum.inl a) = if a = k then some (.ref e) else valV nk (Sum.inl a) := fun a => by
      rw [valV_put]
      by_cases h : a = k
      · subst h; simp
      · rw [if_neg (fun z => h (Sum.inl.inj z)), if_neg h]
    refine ⟨fun b o q hb => ?_, ?_, ?_, fun a => ?_, fun a d hd => ?_, fun a a' d hd hd' => ?_, ?_⟩
    · rw [upd_ne (ne_of_none q He), upd_ne (ne_of_none q hnd), upd_ne (ne_of_none q He)]; exact N.keep b o q hb
    · rw [upd_ne npe, upd_ne npn, upd_ne npe]; exact N.frz
    · rw [upd_ne nee, upd_same]
    · by_cases ha : a = k
      · subst ha
        rcases N.near a with ⟨g1, g2⟩ | ⟨d', ks', g1, _⟩
        · refine .inr ⟨e, [j], by rw [hv, if_pos rfl], upd_same, by simp, by simp, fun x => ?_⟩
          simp [g2 x]
        · rw [hk] at g1; cases g1
      · rcases N.near a with ⟨g1, g2⟩ | ⟨d', ks', g1, g2, g3, g4, g5⟩
        · exact .inl ⟨by rw [hv, if_neg ha]; exact g1, fun x z => z.elim (g2 x) fun q => ha q.1⟩
        · have n1 : d' ≠ e := ne_of_none g2 he
          have n2 : d' ≠ nd := (N.new a d' g1).2
          refine .inr ⟨d', ks', by rw [hv, if_neg ha]; exact g1, by rw [upd_ne n1, upd_ne n2, upd_ne n1]; exact g2, g3, Nat.le_succ_of_le g4, fun x => ?_⟩
          rw [g5 x]
          simp [ha]
    · rw [hv] at hd
      split at hd
      · cases hd; exact ⟨He, Ne.symm nee⟩
      · exact N.new a d hd
    · rw [hv] at hd hd'
      have fresh : ∀ x, valV nk (Sum.inl x) ≠ some (.ref e) := fun x z => by
        rcases N.near x with ⟨g1, _⟩ | ⟨d', ks', g1, g2, _⟩
        · rw [g1] at z; cases z
        · rw [g1] at z; cases z; rw [he] at g2; cases g2
      split at hd <;> split at hd'
      · rename_i p q; rw [p, q]
      · cases hd; exact absurd hd' (fresh _)
      · cases hd'; exact absurd hd (fresh _)
      · exact N.inj a a' d hd hd'
    · rw [putK_new _ hk, List.length_append]
      exact Nat.succ_le_succ N.len
section
variable {P : Program} {w : World} {K : PySem.W.Frag} {mg : Str → Option Value} {base : Heap} {CM : Addr}
abbrev N_kinds_nearby : List Str := ["paired", "nearby", "pair", "near_first", "near_second"]
theorem sc_kinds_nearby : FnScope N_kinds_nearby ["paired"] (defScope s_kinds_nearby) := ⟨rfl, rfl, rfl, by decide +kernel, rfl, by decide +kernel, by decide +kernel⟩
theorem ok_kinds_nearby (D : Def K mg "kinds_nearby" s_kinds_nearby ["paired"]) : Own P w K mg base CX0 1 "kinds_nearby" ["paired"] spNearby := D.own fun f fd F => by
  refine F.ok sc_kinds_nearby (fun vs H Q E h => ?_) (fun cdv A outer s H vs Q E hr h => ?_)
  · obtain ⟨kinds, pd, ps, rfl, _⟩ := h
    rfl
  · obtain ⟨kinds, pd, ps, rfl, hpd, ok, k⟩ := h
    refine ⟨_, (pss_cons (ps_set (i := 1) sc_kinds_nearby.nd rfl (by first | exact Or.inl rfl | exact Or.inr rfl) pe_dnewK)
      (pss_cons (ps_forD PassesOwn.never rfl (pv 0) (pg_name (i := 2) sc_kinds_nearby.nd rfl (by first | exact Or.inl rfl | exact Or.inr rfl)) (pss_cons (ps_set (i := 3) sc_kinds_nearby.nd rfl (by first | exact Or.inl rfl | exact Or.inr rfl) (pe_dsetd (pv 1) (pe_ix (r := rIxT K) ix_tup (pv 2) pe_int (fun _ _ => rfl)) pe_dnewK ⟨rfl, rfl, rfl, rfl⟩))
        (pss_cons (ps_dput (hu_of hr) (pv 3) (pe_ix (r := rIxT K) ix_tup (pv 2) pe_int (fun _ _ => rfl)) pe_bl rfl)
        (pss_cons (ps_set (i := 4) sc_kinds_nearby.nd rfl (by first | exact Or.inl rfl | exact Or.inr rfl) (pe_dsetd (pv 1) (pe_ix (r := rIxT K) ix_tup (pv 2) pe_int (fun _ _ => rfl)) pe_dnewK ⟨rfl, rfl, rfl, rfl⟩))
        (pss_one (ps_dput (hu_of hr) (pv 4) (pe_ix (r := rIxT K) ix_tup (pv 2) pe_int (fun _ _ => rfl)) pe_bl rfl))))))
      (pss_one (ps_ret (pv 1))))), ?_⟩
    intro nd hnd
    have npn : pd ≠ nd := ne_of_none hpd hnd
    refine ⟨_, rfl, pd, _, rfl, by rw [upd_ne npn]; exact hpd, .inr ⟨_, rfl⟩, fun fo ks hks => ?_⟩
    obtain ⟨kvs, e1, _⟩ | ⟨kvs, e1, hkv⟩ := hks
    · cases e1
    cases e1
    have hl : ks.length = ps.length := by have := Paired.length hkv; simpa [prs] using this.symm
    have few := ok.few
    have big : 1000 < sizeLine := by decide
    refine for_dict (fun i σ H2 => (∃ nk, NInv H H2 pd fo (.dT (prs ps)) nd nk (2 * i) (nearTo (ps.take i))) ∧ (∀ b o, H b = some o → b ≠ pd → H2 b = some o) ∧ ∃ v1 v2 v3, σ = [some (.ref pd), some (.ref nd), v1, v2, v3]) ⟨⟨[], ?_⟩, ?_, _, _, _, rfl⟩ (fun i σ H2 _ ⟨⟨nk, N⟩, _⟩ => N.frz) ?_ ?_
    · refine ⟨fun b o q hb => ?_, upd_same, ?_, fun a => .inl ⟨rfl, fun j z => ?_⟩, fun a d z => ?_, fun a a' d z => ?_, Nat.zero_le _⟩
      · rw [upd_ne hb, upd_ne (ne_of_none q hnd)]; exact q
      · rw [upd_ne (Ne.symm npn), upd_same]
      · simp [nearTo] at z
      · cases z
      · cases z
    · intro b o q hb
      rw [upd_ne hb, upd_ne (ne_of_none q hnd)]; exact q
    · rintro i y σ H2 hi ⟨⟨nk, N⟩, kp, v1, v2, v3, rfl⟩
      have hil : i < ks.length := (List.getElem?_eq_some_iff.mp hi).1
      -- the pair
      obtain ⟨p, hpi, t, rfl, ht⟩ : ∃ p, ps[i]? = some p ∧ ∃ t, y = .ref t ∧ H t = some (.tup (p.map V.int)) := by
        have hi' : i < ps.length := by omega
        obtain ⟨y', h1, t, h2, h3⟩ := L2.Paired.get hkv (i := i) (x := (keyP ps[i], .bl true)) (by simp [prs, hi'])
        rw [hi] at h1
        cases h1
        refine ⟨ps[i], by simp [hi'], t, h2, ?_⟩
        rw [keyP_kV] at h3
        by_cases z : t = nd
        · rw [z, upd_same] at h3; cases h3
        · rw [upd_ne z] at h3; exact h3
      obtain ⟨a, b, rfl, h0, h1, h2⟩ := ok.ok p (List.mem_of_getElem? hpi)
      have ntp : t ≠ pd := ne_of ht hpd (by intro z; cases z)
      have ht2 := kp _ _ ht ntp
      have hrel : ∀ x y, nearTo (ps.take (i + 1)) x y ↔ (nearTo (ps.take i) x y ∨ (x = a ∧ y = b)) ∨ (x = b ∧ y = a) := fun x y => by
        rw [List.take_add_one, hpi]
        simp only [nearTo, Option.toList, List.mem_append, List.mem_singleton, List.cons.injEq, and_true]
        constructor
        · rintro ((h | h) | h | h)
          · exact .inl (.inl (.inl h))
          · exact .inl (.inr h)
          · exact .inl (.inl (.inr h))
          · exact .inr ⟨h.2, h.1⟩
        · rintro (((h | h) | h) | h)
          · exact .inl (.inl h)
          · exact .inr (.inl h)
          · exact .inl (.inr h)
          · exact .inr (.inr ⟨h.2, h.1⟩)
      have fin : ∀ {H' : Hp} {nk' : List (Key × V)}, NInv H H' pd fo (.dT (prs ps)) nd nk' (2 * i + 1 + 1) (fun x y => (nearTo (ps.take i) x y ∨ (x = a ∧ y = b)) ∨ (x = b ∧ y = a)) → NInv H H' pd fo (.dT (prs ps)) nd nk' (2 * (i + 1)) (nearTo (ps.take (i + 1))) := fun {H' nk'} N => by
        have : nearTo (ps.take (i + 1)) = fun x y => (nearTo (ps.take i) x y ∨ (x = a ∧ y = b)) ∨ (x = b ∧ y = a) := by funext x y; exact propext (hrel x y)
        rw [this]
        exact N
      -- near_first = nearby.setdefault(pair[0], {}); near_first[pair[1]] = True
      refine ⟨_, rfl, nd, rfl, .inl ⟨nk, .inl N.top⟩, _, rfl, t, _, _, _, rfl, rfl, SqT.of ht2, rfl, fun e he => ?_⟩
      have nee : nd ≠ e := ne_of_none N.top he
      have nte : t ≠ e := ne_of_none ht2 he
      have ntn : t ≠ nd := ne_of ht2 N.top (by intro z; cases z)
      obtain ⟨S1, S2⟩ := N.step (k := a) (j := b) hnd he hpd
      have hlen := N.len
      have kpe : ∀ b o, H b = some o → b ≠ pd → (upd H2 e (.dK [])) b = some o := fun c o q hc => by rw [upd_ne (ne_of_none (kp c o q hc) he)]; exact kp c o q hc
      refine ⟨nk, Sum.inl a, by rw [upd_ne nee]; exact N.top, rfl, by omega, fun v hv => ?_, fun hv => ?_⟩
      rotate_left
      have N1 := S2 hv
      have g0 : putK [] (Sum.inl b : Key) (.bl true) = ones [b] := ones_add [] b
      refine ⟨_, rfl, _, rfl, t, _, _, _, rfl, rfl, SqT.of (by rw [upd_ne ntn, upd_ne nte]; exact ht2), rfl, e, upd (upd (upd H2 e (.dK [])) nd (.dK (putK nk (Sum.inl a) (.ref e)))) e (.dK (ones [b])), rfl, by rw [← g0]; exact DPut.k (k := Sum.inl b) (by rw [upd_ne (Ne.symm nee), upd_same]) (by simp; omega), ?_⟩
      rotate_left
      obtain ⟨d, rfl⟩ : ∃ d, v = .ref d := by
        rcases N.near a with ⟨g1, _⟩ | ⟨d, _, g1, _⟩
        · rw [g1] at hv; cases hv
        · rw [g1] at hv; cases hv; exact ⟨d, rfl⟩
      obtain ⟨ks1, g1, g2, N1⟩ := S1 d hv
      have ntd : t ≠ d := fun z => by rw [z] at ht2; rw [upd_ne (z ▸ nte)] at g1; rw [ht2] at g1; cases g1
      refine ⟨_, rfl, _, rfl, t, _, _, _, rfl, rfl, SqT.of (by rw [upd_ne nte]; exact ht2), rfl, d, upd (upd H2 e (.dK [])) d (.dK (ones (addK ks1 b))), rfl, by rw [← ones_add]; exact DPut.k (k := Sum.inl b) g1 (by simp [ones]; omega), ?_⟩
      all_goals
        have kp1 := N1.keep
        have ht1 := kp1 _ _ ht ntp
        have hlen1 := N1.len
        refine ⟨_, rfl, nd, rfl, .inl ⟨_, .inl N1.top⟩, _, rfl, t, _, _, _, rfl, rfl, SqT.of ht1, rfl, fun e' he' => ?_⟩
        have nee' : nd ≠ e' := ne_of_none N1.top he'
        have nte' : t ≠ e' := ne_of_none ht1 he'
        obtain ⟨S3, S4⟩ := N1.step (k := b) (j := a) hnd he' hpd
        refine ⟨_, Sum.inl b, by rw [upd_ne nee']; exact N1.top, rfl, by omega, fun v hv' => ?_, fun hv' => ?_⟩
        · obtain ⟨d', rfl⟩ : ∃ d, v = .ref d := by
            rcases N1.near b with ⟨g1, _⟩ | ⟨d, _, g1, _⟩
            · rw [g1] at hv'; cases hv'
            · rw [g1] at hv'; cases hv'; exact ⟨d, rfl⟩
          obtain ⟨ks2, g3, g4, N2⟩ := S3 d' hv'
          refine ⟨_, rfl, _, rfl, t, _, _, _, rfl, rfl, SqT.of (by rw [upd_ne nte']; exact ht1), rfl, d', _, rfl, by rw [← ones_add] at N2; exact DPut.k (k := Sum.inl a) g3 (by simp [ones]; omega), ?_⟩
          rw [ones_add]
          exact ⟨⟨_, fin N2⟩, N2.keep, _, _, _, rfl⟩
        · have N2 := S4 hv'
          have g0 : putK [] (Sum.inl a : Key) (.bl true) = ones [a] := ones_add [] a
          refine ⟨_, rfl, _, rfl, t, _, _, _, rfl, rfl, SqT.of (by rw [upd_ne ntn, upd_ne nte']; exact ht1), rfl, e', _, rfl, DPut.k (k := Sum.inl a) (by rw [upd_ne (Ne.symm nee'), upd_same]) (by simp; omega), ?_⟩
          rw [g0]
          exact ⟨⟨_, fin N2⟩, N2.keep, _, _, _, rfl⟩
    · rintro σ H2 ⟨⟨nk, N⟩, kp, v1, v2, v3, rfl⟩
      rw [hl, List.take_length] at N
      refine ⟨_, rfl, k nd nk _ hnd ?_ ?_ fun b o q => ?_⟩
      · rw [upd_ne (Ne.symm npn)]; exact N.top
      · intro a
        rcases N.near a with g | ⟨d, ks', g1, g2, g3, g4, g5⟩
        · exact .inl g
        · exact .inr ⟨d, ks', g1, by rw [upd_ne (ne_of g2 N.frz (by intro z; cases z))]; exact g2, g3, by omega, g5⟩
      · by_cases hb : b = pd
        · subst hb
          rw [upd_same, ← q, hpd]
        · rw [upd_ne hb]; exact kp b o q hb
end
end J
namespace J
open PySem L2
def SameB (x : Addr) (H H' : Hp) : Prop := ∀ b o, H b = some o → b ≠ x → H' b = some o
def IsIns (H : Hp) (x : Addr) : Prop := ∃ C dx fs, H x = some (.ins C dx fs)
theorem SameB.seq {K : PySem.W.Frag} {x : Addr} {H H' : Hp} {a : Addr} {xs : List V} (e : SameB x H H') (i : IsIns H x) (h : SqL K H a xs) : SqL K H' a xs := by
  obtain ⟨C, dx, fs, i⟩ := i
  rcases h with (h | ⟨o, h⟩) | h
  · exact .inl (.inl (e _ _ h (ne_of h i (by intro z; cases z))))
  · exact .inl (.inr ⟨o, e _ _ h (ne_of h i (by intro z; cases z))⟩)
  · exact .inr h
theorem SameB.pairs {K : PySem.W.Frag} {x : Addr} {H H' : Hp} {a : Addr} {ps : List (List Int)} (e : SameB x H H') (i : IsIns H x) (h : PairsAt K H a ps) : PairsAt K H' a ps := by
  obtain ⟨xs, h1, h2⟩ := h
  refine ⟨xs, e.seq i h1, Paired.mapP h2 fun y p ⟨q, r, z⟩ => ⟨q, r, ?_⟩⟩
  obtain ⟨C, dx, fs, i⟩ := i
  exact e _ _ z (ne_of z i (by intro z; cases z))
theorem SameB.upd {x : Addr} {H H' : Hp} {o : HO} (e : SameB x H H') : SameB x H (L2.upd H' x o) := fun b u q hb => by rw [upd_ne hb]; exact e b u q hb
theorem SameB.trans {x : Addr} {H H1 H2 : Hp} (e : SameB x H H1) (f : Same H1 H2) : SameB x H H2 := fun b u q hb => f _ _ (e b u q hb)
def spMindsInit (K : PySem.W.Frag) (CM : Addr) : Sp := fun vs H Q _ => ∃ (x dx : Addr) (kinds : Int) (pl : Addr) (ps : List (List Int)), vs = [.ref x, .int kinds, .ref pl] ∧ H x = some (.ins CM dx []) ∧ PairsAt K H pl ps ∧ MindsOk kinds ps ∧
  ∀ H', MindsAt CM H' x kinds ps → SameB x H H' → Q .non H'
def spPairs (CM : Addr) : Sp := fun vs H Q _ => ∃ (m : Addr) (kinds : Int) (ps : List (List Int)), vs = [.ref m] ∧ MindsAt CM H m kinds ps ∧
  ∀ D xs H', H D = none → H' D = some (.lst xs) → Paired (tupAt H') xs ps → Same H H' → Q (.ref D) H'
def spMindM (CM : Addr) : Sp := fun vs H Q _ => ∃ (m : Addr) (kinds : Int) (ps : List (List Int)) (a b : Int), vs = [.ref m, .int a, .int b] ∧ MindsAt CM H m kinds ps ∧ 0 ≤ a ∧ a < kinds ∧ 0 ≤ b ∧ b < kinds ∧
  ∀ H', Same H H' → Q (.bl (mind ps a b)) H'
theorem keys_pairs {H : Hp} {ps : List (List Int)} {ks : List V} (h : KeysV H (.dT (prs ps)) ks) : Paired (tupAt H) ks ps := by
  obtain ⟨_, e, _⟩ | ⟨kvs, e, h⟩ := h
  · cases e
  · cases e
    have go : ∀ (ps : List (List Int)) (ks : List V), Paired (fun (p : List Key × V) (x : V) => ∃ b, x = .ref b ∧ H b = some (.tup (p.1.map kV))) (prs ps) ks → Paired (tupAt H) ks ps := by
      intro ps
      induction ps with
      | nil => intro ks h; cases h; exact .nil
      | cons p ps ih =>
        intro ks h
        cases h with
        | cons q r =>
          obtain ⟨b, e1, e2⟩ := q
          exact .cons ⟨b, e1, by rw [← keyP_kV]; exact e2⟩ (ih _ r)
    exact go ps ks h
theorem prs_val (ps : List (List Int)) (p : List Int) : (valV (prs ps) (keyP p)).isSome = decide (p ∈ ps) := by
  by_cases h : p ∈ ps
  · rw [decide_eq_true h, ← valV_any, List.any_eq_true]
    exact ⟨(keyP p, .bl true), List.mem_map.mpr ⟨p, h, rfl⟩, by simp⟩
  · rw [prs_none h, decide_eq_false h]; rfl
section
variable {P : Program} {w : World} {K : PySem.W.Frag} {mg : Str → Option Value} {base : Heap} {CM : Addr}
abbrev N_Minds_init : List Str := ["self", "kinds", "pairs"]
theorem sc_Minds_init : FnScope N_Minds_init ["self", "kinds", "pairs"] (defScope s_Minds_init) := ⟨rfl, rfl, rfl, by decide +kernel, rfl, by decide +kernel, by decide +kernel⟩
theorem ok_Minds (D : DefC K mg CM "Minds" "Minds.__init__" s_Minds_init ["self", "kinds", "pairs"]) (T : Txt K mg CM) (O_check_kinds : Own P w K mg base CX0 2 "check_kinds" ["kinds"] spCheckKinds) (O_pairs_kept : Own P w K mg base CX0 5 "pairs_kept" ["kinds", "pairs"] (spPairsKept K))
    (O_kinds_nearby : Own P w K mg base CX0 1 "kinds_nearby" ["paired"] spNearby) : OwnC P w K mg base CX0 6 CM "Minds" ["self", "kinds", "pairs"] (spMindsInit K CM) := D.own fun f fd F => by
  refine F.ok sc_Minds_init (fun vs H Q E h => ?_) (fun cdv A outer s H vs Q E hr h => ?_)
  · obtain ⟨x, dx, kinds, pl, ps, rfl, _⟩ := h
    rfl
  · obtain ⟨x, dx, kinds, pl, ps, rfl, hx, hP, ok, k⟩ := h
    refine ⟨_, (pss_cons (ps_expr (pe_own O_check_kinds (hr.mono (by decide)) (by rfl) pass0 (pa_cons (pv 1) pa_nil)))
      (pss_cons (ps_fld (pv 0) (pv 1) rfl)
      (pss_cons (ps_fld (pv 0) (pe_own O_pairs_kept (hr.mono (by decide)) (by rfl) pass0 (pa_cons (pv 1) (pa_cons (pv 2) pa_nil))) rfl)
      (pss_one (ps_fld (pv 0) (pe_own O_kinds_nearby (hr.mono (by decide)) (by rfl) pass0 (pa_cons (pe_fld (pv 0) rfl) pa_nil)) rfl))))), ?_⟩
    refine ⟨_, rfl, kinds, rfl, ok.pos, _, rfl, _, rfl, x, CM, dx, [], rfl, hx, T.c_Minds, T.nKinds, (by show 0 < 1000; decide), ?_⟩
    have ix : IsIns H x := ⟨_, _, _, hx⟩
    have s1 : SameB x H (upd H x (.ins CM dx (putF "kinds" (.int kinds) []))) := fun b o q hb => by rw [upd_ne hb]; exact q
    refine ⟨_, rfl, _, rfl, kinds, pl, ps, rfl, s1.pairs ix hP, ok, fun pd H2 hpd hd s2 => ?_⟩
    have hx2 : H2 x = some (.ins CM dx (putF "kinds" (.int kinds) [])) := s2 _ _ upd_same
    refine ⟨_, rfl, x, CM, dx, _, rfl, hx2, T.c_Minds, T.nPaired, (by show 1 < 1000; decide), ?_⟩
    have npx : pd ≠ x := ne_of hd hx2 (by intro z; cases z)
    refine ⟨_, rfl, x, CM, dx, _, .ref pd, rfl, upd_same, T.c_Minds, T.nPaired, (by rw [lookup_putF, if_pos rfl]), kinds, pd, ps, rfl, by rw [upd_ne npx]; exact hd, ok, fun nd nk H4 hnd hd4 hN s4 => ?_⟩
    have hx4 := s4 _ _ upd_same
    refine ⟨_, rfl, x, CM, dx, _, rfl, hx4, T.c_Minds, T.nNearby, (by have e1 := length_putF "paired" (.ref pd) (putF "kinds" (.int kinds) []); have e2 := length_putF "kinds" (V.int kinds) []; simp at e2; omega), ?_⟩
    have nnx : nd ≠ x := ne_of hd4 hx4 (by intro z; cases z)
    refine k _ ⟨dx, pd, nd, nk, upd_same, ?_, ?_, fun a => ?_⟩ ?_
    · rw [upd_ne npx]; exact s4 _ _ (by rw [upd_ne npx]; exact hd)
    · rw [upd_ne nnx]; exact hd4
    · rcases hN a with g | ⟨d, ks', g1, g2, g3, g4, g5⟩
      · exact .inl g
      · exact .inr ⟨d, ks', g1, by rw [upd_ne (ne_of g2 hx4 (by intro z; cases z))]; exact g2, g3, g4, g5⟩
    · exact (((s1.trans s2).upd).trans s4).upd
abbrev N_Minds_pairs : List Str := ["self"]
theorem sc_Minds_pairs : FnScope N_Minds_pairs ["self"] (defScope s_Minds_pairs) := ⟨rfl, rfl, rfl, by decide +kernel, rfl, by decide +kernel, by decide +kernel⟩
theorem ok_Minds_pairs (D : DefM K CM "pairs" "Minds.pairs" s_Minds_pairs ["self"]) (T : Txt K mg CM) : OwnM P w K mg base CX0 1 CM "pairs" ["self"] (spPairs CM) := D.own fun f fd F => by
  refine F.ok sc_Minds_pairs (fun vs H Q E h => ?_) (fun cdv A outer s H vs Q E hr h => ?_)
  · obtain ⟨m, kinds, ps, rfl, _⟩ := h
    rfl
  · obtain ⟨m, kinds, ps, rfl, hM, k⟩ := h
    obtain ⟨dx, pd, nd, nk, h1, h2, h3, h4⟩ := hM.ex
    refine ⟨_, (pss_one (ps_ret (pe_callTy (call_listD rfl) (by rfl) T.list bo_list (pa_cons (pe_fld (pv 0) rfl) pa_nil)))), ?_⟩
    refine ⟨_, rfl, m, CM, dx, _, _, rfl, h1, T.c_Minds, T.nPaired, flds_paired _ _ _, pd, _, rfl, h2, .inr ⟨_, rfl⟩, fun l ks hl hk => ?_⟩
    have s1 : Same H (upd H l (.lst ks)) := Same.new hl
    exact k l ks _ hl upd_same (Paired.mapP (keys_pairs hk) fun _ _ ⟨q, r, z⟩ => ⟨q, r, s1 _ _ z⟩) s1
abbrev N_Minds_mind : List Str := ["self", "one", "other"]
theorem sc_Minds_mind : FnScope N_Minds_mind ["self", "one", "other"] (defScope s_Minds_mind) := ⟨rfl, rfl, rfl, by decide +kernel, rfl, by decide +kernel, by decide +kernel⟩
theorem ok_Minds_mind (D : DefM K CM "mind" "Minds.mind" s_Minds_mind ["self", "one", "other"]) (T : Txt K mg CM) (O_check_kind : Own P w K mg base CX0 3 "check_kind" ["minds", "kind"] (spCheckKind CM)) : OwnM P w K mg base CX0 4 CM "mind" ["self", "one", "other"] (spMindM CM) := D.own fun f fd F => by
  refine F.ok sc_Minds_mind (fun vs H Q E h => ?_) (fun cdv A outer s H vs Q E hr h => ?_)
  · obtain ⟨m, kinds, ps, a, b, rfl, _⟩ := h
    rfl
  · obtain ⟨m, kinds, ps, a, b, rfl, hM, ha, ha', hb, hb', k⟩ := h
    obtain ⟨dx, pd, nd, nk, h1, h2, h3, h4⟩ := hM.ex
    refine ⟨_, (pss_cons (ps_expr (pe_own O_check_kind (hr.mono (by decide)) (by rfl) pass0 (pa_cons (pv 0) (pa_cons (pv 1) pa_nil))))
      (pss_cons (ps_expr (pe_own O_check_kind (hr.mono (by decide)) (by rfl) pass0 (pa_cons (pv 0) (pa_cons (pv 2) pa_nil))))
      (pss_one (ps_ret (pe_or (pe_cmpR op_eq (pv 1) (pv 2) (nomark _)) (pe_one (pe_cmp (pc_din (hu_of hr) (pe_tup (pa_cons (pe_callB (call_min2 rfl) (by rfl) T.min bo_min (pa_cons (pv 1) (pa_cons (pv 2) pa_nil))) (pa_cons (pe_callB (call_max2 rfl) (by rfl) T.max bo_max (pa_cons (pv 1) (pa_cons (pv 2) pa_nil))) pa_nil))) (pe_fld (pv 0) rfl))))))))), ?_⟩
    refine ⟨_, rfl, _, rfl, m, kinds, ps, a, rfl, hM, ha, ha', ?_⟩
    refine ⟨_, rfl, _, rfl, m, kinds, ps, b, rfl, hM, hb, hb', ?_⟩
    refine ⟨_, rfl, _, rfl, rfl, _, rfl, ite2 (fun e => ?_) (fun e => ?_)⟩
    · have := k H (Same.refl H)
      rw [dec_vint] at e
      rw [show mind ps a b = true by simp [mind, of_decide_eq_true e]] at this
      exact this
    · refine ⟨_, rfl, _, rfl, _, _, rfl, _, rfl, _, rfl, _, _, rfl, (by show 2 ≤ sizeLine; decide), fun t ht => ?_⟩
      have ntm : m ≠ t := ne_of_none h1 ht
      have ntp : pd ≠ t := ne_of_none h2 ht
      refine ⟨_, rfl, m, CM, dx, _, _, rfl, by rw [upd_ne ntm]; exact h1, T.c_Minds, T.nPaired, flds_paired _ _ _, pd, _, rfl, DGet.t (k := keyP [min a b, max a b]) (by rw [upd_ne ntp]; exact h2) ?_, ?_⟩
      · rw [upd_same, keyP_kV, min_if, max_if]; rfl
      · rw [prs_val]
        have := k _ (Same.new (o := .tup [.int (if b < a then b else a), .int (if b > a then b else a)]) ht)
        rw [dec_vint] at e
        rw [show mind ps a b = decide ([min a b, max a b] ∈ ps) by simp [mind, show ¬ a = b from fun z => e (decide_eq_true z)]] at this
        exact this
end
end J
namespace J
open PySem L2
def spMind (K : PySem.W.Frag) : Sp := fun vs H Q _ => ∃ (pp : V) (ps : List (List Int)) (a b : Int), vs = [pp, .int a, .int b] ∧ enP K H pp ps ∧ ∀ H', Same H H' → Q (.bl (mind ps a b)) H'
section
variable {P : Program} {w : World} {K : PySem.W.Frag} {mg : Str → Option Value} {base : Heap}
abbrev N_law_mind : List Str := ["_law_pairs", "_law_one", "_law_other"]
theorem sc_law_mind : FnScope N_law_mind ["_law_pairs", "_law_one", "_law_other"] (defScope s_law_mind) := ⟨rfl, rfl, rfl, by decide +kernel, rfl, by decide +kernel, by decide +kernel⟩
theorem ok_law_mind (D : Def K mg "_law_mind" s_law_mind ["_law_pairs", "_law_one", "_law_other"]) (T : Blt mg) : Own P w K mg base CX0 1 "_law_mind" ["_law_pairs", "_law_one", "_law_other"] (spMind K) := D.own fun f fd F => by
  refine F.ok sc_law_mind (fun vs H Q E h => ?_) (fun cdv A outer s H vs Q E hr h => ?_)
  · obtain ⟨pp, ps, a, b, rfl, _⟩ := h
    rfl
  · obtain ⟨pp, ps, a, b, rfl, hp, k⟩ := h
    refine ⟨_, (pss_one (ps_ret (pe_or (pe_cmpR op_eq (pv 1) (pv 2) (nomark _)) (pe_one (pe_cmpR (op_inL (eqk_tup eqk_int) (hr.un2 2 (by decide))) (pe_tup (pa_cons (pe_callB (call_min2 rfl) (by rfl) T.min bo_min (pa_cons (pv 1) (pa_cons (pv 2) pa_nil))) (pa_cons (pe_callB (call_max2 rfl) (by rfl) T.max bo_max (pa_cons (pv 1) (pa_cons (pv 2) pa_nil))) pa_nil))) (pv 0) rfl))))), ?_⟩
    refine ⟨_, rfl, _, rfl, rfl, _, rfl, ?_⟩
    refine ite2 (fun e => ?_) (fun e => ?_)
    · have := k H (Same.refl H)
      rw [dec_vint] at e
      rw [show mind ps a b = true by simp [mind, of_decide_eq_true e]] at this
      exact this
    · refine ⟨_, rfl, _, rfl, _, _, rfl, _, rfl, _, rfl, _, _, rfl, (by show 2 ≤ sizeLine; decide), fun t ht => ?_⟩
      refine ⟨_, rfl, [min a b, max a b], ps, decide ([min a b, max a b] ∈ ps), ?_, stays_pairs _ _ _ _ (Same.new ht) hp, by simp, ?_⟩
      · rw [min_if, max_if]
        exact enT_ints (SqT.of upd_same)
      · have := k _ (Same.new (o := .tup [.int (if b < a then b else a), .int (if b > a then b else a)]) ht)
        rw [dec_vint] at e
        rw [show mind ps a b = decide ([min a b, max a b] ∈ ps) by simp [mind, show ¬ a = b from fun z => e (decide_eq_true z)]] at this
        exact this
end
end J
namespace J
open PySem L2
def spRow (K : PySem.W.Frag) : Sp := fun vs H Q _ => ∃ (a : Addr) (ns : List Int) (kinds by_ : Int), vs = [.ref a, .int kinds, .int by_] ∧ SqL K H a (ns.map V.int) ∧ ns.length ≤ 100000 ∧ 0 < kinds ∧ 0 < by_ ∧ by_ < 1000 ∧
  ∀ D H', H D = none → H' D = some (.lst ((ns.map fun z => z / by_ % kinds).map V.int)) → Same H H' → Q (.ref D) H'
def spPart (K : PySem.W.Frag) : Sp := fun vs H Q _ => ∃ (a : Addr) (ns : List Int) (one other : Int), vs = [.ref a, .int one, .int other] ∧ SqL K H a (ns.map V.int) ∧ ns.length ≤ 100000 ∧
  ∀ D H', H D = none → H' D = some (.lst ((part ns one other).map V.int)) → Same H H' → Q (.ref D) H'
section
variable {P : Program} {w : World} {K : PySem.W.Frag} {mg : Str → Option Value} {base : Heap}
abbrev N_law_row : List Str := ["_law_script", "_law_kinds", "_law_by"]
theorem sc_law_row : FnScope N_law_row ["_law_script", "_law_kinds", "_law_by"] (defScope s_law_row) := ⟨rfl, rfl, rfl, by decide +kernel, rfl, by decide +kernel, by decide +kernel⟩
theorem ok_law_row (D : Def K mg "_law_row" s_law_row ["_law_script", "_law_kinds", "_law_by"]) : Own P w K mg base CX0 1 "_law_row" ["_law_script", "_law_kinds", "_law_by"] (spRow K) := D.own fun f fd F => by
  refine F.ok sc_law_row (fun vs H Q E h => ?_) (fun cdv A outer s H vs Q E hr h => ?_)
  · obtain ⟨a, ns, kinds, by_, rfl, _⟩ := h
    rfl
  · obtain ⟨a, ns, kinds, by_, rfl, hS, hl, hk, hb, hb', k⟩ := h
    refine ⟨_, (pss_one (ps_ret (pe_comp (N := ["_law_cell", "_law_kinds", "_law_by"]) (src := [none, some 1, some 2]) rfl (CompScope.of (M := N_law_row) (sc := defScope s_law_row) (by decide +kernel)) (pi_list (pv 0)) (fun _ _ _ _ _ => (pg_own (i := 0) (by decide +kernel) rfl rfl)) (fun _ _ _ _ _ => pts_nil) (fun _ _ _ _ _ => (pe_op op_mod (pe_op op_fdiv (pv 0) (pv 2)) (pv 1)))))), ?_⟩
    refine ⟨_, rfl, a, rfl, ⟨_, hS⟩, comp_list (fun _ => true) (onI fun z => z / by_ % kinds) (by rw [List.length_map]; exact len_line hl) hS (fun i x H3 T F hx s3 h1 h2 => ?_) (fun D H2 hD hd s2 => k D H2 hD ?_ s2)⟩
    · obtain ⟨z, hz, rfl⟩ := get_int hx
      refine ⟨Ext.set rfl, ?_⟩
      exact ⟨_, rfl, _, rfl, _, _, rfl, rfl, ⟨hb, by omega⟩, _, rfl, _, _, rfl, rfl, hk, h1 rfl H3 (Same.refl _)⟩
    · rw [hd, List.filter_eq_self.mpr (fun _ _ => rfl), map_int]
abbrev N_law_part : List Str := ["_law_row_here", "_law_one", "_law_other"]
theorem sc_law_part : FnScope N_law_part ["_law_row_here", "_law_one", "_law_other"] (defScope s_law_part) := ⟨rfl, rfl, rfl, by decide +kernel, rfl, by decide +kernel, by decide +kernel⟩
theorem ok_law_part (D : Def K mg "_law_part" s_law_part ["_law_row_here", "_law_one", "_law_other"]) : Own P w K mg base CX0 1 "_law_part" ["_law_row_here", "_law_one", "_law_other"] (spPart K) := D.own fun f fd F => by
  refine F.ok sc_law_part (fun vs H Q E h => ?_) (fun cdv A outer s H vs Q E hr h => ?_)
  · obtain ⟨a, ns, one, other, rfl, _⟩ := h
    rfl
  · obtain ⟨a, ns, one, other, rfl, hS, hl, k⟩ := h
    refine ⟨_, (pss_one (ps_ret (pe_comp (N := ["_law_kind", "_law_one", "_law_other"]) (src := [none, some 1, some 2]) rfl (CompScope.of (M := N_law_part) (sc := defScope s_law_part) (by decide +kernel)) (pi_list (pv 0)) (fun _ _ _ _ _ => (pg_own (i := 0) (by decide +kernel) rfl rfl)) (fun _ _ _ _ _ => (pts_one (PW.pt (pw_or (pt_cmpR op_eq (pv 0) (pv 1) (nomark _)) (pw_or1 (pt_cmpR op_eq (pv 0) (pv 2) (nomark _))))))) (fun _ _ _ _ _ => (pv 0))))), ?_⟩
    refine ⟨_, rfl, a, rfl, ⟨_, hS⟩, comp_list (onB fun z => decide (z = one) || decide (z = other)) id (by rw [List.length_map]; exact len_line hl) hS (fun i x H3 T F hx s3 h1 h2 => ?_) (fun D H2 hD hd s2 => k D H2 hD ?_ s2)⟩
    · obtain ⟨z, hz, rfl⟩ := get_int hx
      refine ⟨Ext.set rfl, ?_⟩
      refine ⟨_, rfl, _, rfl, rfl, _, rfl, ite2 (fun e => ?_) (fun e => ?_)⟩
      · rw [dec_vint] at e
        exact iteT ⟨_, rfl, h1 (by simp [onB, of_decide_eq_true e]) H3 (Same.refl _)⟩
      · rw [dec_vint] at e
        refine ⟨_, rfl, _, rfl, rfl, _, rfl, ite2 (fun e' => ?_) (fun e' => ?_)⟩
        · rw [dec_vint] at e'
          exact ⟨_, rfl, h1 (by simp [onB, of_decide_eq_true e']) H3 (Same.refl _)⟩
        · rw [dec_vint] at e'
          exact h2 (by simp only [onB, Bool.or_eq_false_iff]; exact ⟨by simpa using e, by simpa using e'⟩) H3 (Same.refl _)
    · rw [hd, filt_int, List.map_id]
      rfl
end
end J
namespace J
open PySem L2
def spMinds (K : PySem.W.Frag) : Sp := fun vs H Q _ => ∃ (a : Addr) (ns : List Int), vs = [.ref a] ∧ SqL K H a (ns.map V.int) ∧ ns.length ≤ 63 ∧
  ∀ (t pl : Addr) (H' : Hp) (kinds : Int) (ps : List (List Int)), Same H H' → H' t = some (.tup [.int kinds, .ref pl]) → PairsAt K H' pl ps → MindsOk kinds ps → H pl = none → Q (.ref t) H'
structure Gath (H H2 : Hp) (pl : Addr) (qs : List (List Int × Addr)) : Prop where
  same : Same H H2
  lst : H2 pl = some (.lst (qs.map fun q => V.ref q.2))
  tup : ∀ q ∈ qs, H2 q.2 = some (.tup (q.1.map V.int))
theorem Gath.add {H H2 : Hp} {pl t : Addr} {qs : List (List Int × Addr)} {ks : List Int} (g : Gath H H2 pl qs) (hpl : H pl = none) (ht : H2 t = none) :
    Gath H (upd (upd H2 t (.tup (ks.map V.int))) pl (.lst ((qs.map fun q => V.ref q.2) ++ [.ref t]))) pl (qs ++ [(ks, t)]) := by
  have nt : t ≠ pl := fun z => by rw [z, g.lst] at ht; cases ht
  refine ⟨fun b o e => ?_, ?_, fun q hq => ?_⟩
  · rw [upd_ne (ne_of_none e hpl), upd_ne (ne_of_none (g.same _ _ e) ht)]; exact g.same _ _ e
  · rw [upd_same, List.map_append]; rfl
  · rcases List.mem_append.mp hq with hq | hq
    · have e := g.tup q hq
      rw [upd_ne (ne_of e g.lst (by intro z; cases z)), upd_ne (ne_of_none e ht)]; exact e
    · have : q = (ks, t) := by simpa using hq
      subst this
      rw [upd_ne nt, upd_same]
theorem Gath.pairs {K : PySem.W.Frag} {H H2 : Hp} {pl : Addr} {qs : List (List Int × Addr)} (g : Gath H H2 pl qs) : PairsAt K H2 pl (qs.map (·.1)) := by
  refine ⟨_, SqL.of g.lst, ?_⟩
  have : ∀ l : List (List Int × Addr), (∀ q ∈ l, H2 q.2 = some (.tup (q.1.map V.int))) → Paired (tupAt H2) (l.map fun q => V.ref q.2) (l.map (·.1)) := by
    intro l
    induction l with
    | nil => intro _; exact .nil
    | cons q l ih => intro h; exact .cons ⟨_, rfl, h q List.mem_cons_self⟩ (ih fun x hx => h x (List.mem_cons_of_mem _ hx))
  exact this qs g.tup
section
variable {P : Program} {w : World} {K : PySem.W.Frag} {mg : Str → Option Value} {base : Heap}
abbrev N_law_minds : List Str := ["_law_script", "_law_kinds", "_law_code", "_law_pairs", "_law_cell", "_law_one", "_law_other"]
theorem sc_law_minds : FnScope N_law_minds ["_law_script"] (defScope s_law_minds) := ⟨rfl, rfl, rfl, by decide +kernel, rfl, by decide +kernel, by decide +kernel⟩
def lesser (H : Hp) : V → Bool
  | .ref t => match H t with
    | some (.tup [.int x, .int y]) => decide (x < y)
    | _ => false
  | _ => false
def ltq (q : List Int × Addr) : Bool := match q.1 with
  | [x, y] => decide (x < y)
  | _ => false
theorem refs_paired {H : Hp} : ∀ {l : List (List Int × Addr)}, (∀ q ∈ l, H q.2 = some (.tup (q.1.map V.int))) → Paired (tupAt H) (l.map fun q => V.ref q.2) (l.map (·.1))
  | [], _ => .nil
  | q :: l, h => .cons ⟨_, rfl, h q List.mem_cons_self⟩ (refs_paired fun x hx => h x (List.mem_cons_of_mem _ hx))
theorem ok_law_minds (D : Def K mg "_law_minds" s_law_minds ["_law_script"]) (T : Blt mg) : Own P w K mg base CX0 1 "_law_minds" ["_law_script"] (spMinds K) := D.own fun f fd F => by
  refine F.ok sc_law_minds (fun vs H Q E h => ?_) (fun cdv A outer s H vs Q E hr h => ?_)
  · obtain ⟨a, ns, rfl, _⟩ := h
    rfl
  · obtain ⟨a, ns, rfl, hS, hl, k⟩ := h
    refine ⟨_, (pss_cons (ps_par3 (i := 1) (j := 2) (l := 3) rfl sc_law_minds.nd rfl rfl rfl rfl rfl rfl (pa_cons (pe_op op_add pe_int (pe_op op_mod (pe_callB (call_sum rfl) (by rfl) T.sum bo_sum (pa_cons (pv 0) pa_nil)) pe_int)) (pa_cons (pe_op op_add (pe_op op_fdiv (pe_callB (call_sum rfl) (by rfl) T.sum bo_sum (pa_cons (pv 0) pa_nil)) pe_int) (pe_callB call_len_seq (by rfl) T.len bo_len (pa_cons (pv 0) pa_nil))) (pa_cons (pe_lst pa_nil) pa_nil))) (by rfl))
      (pss_cons (ps_if (pt_cmpR op_eq (pe_op op_mod (pv 2) pe_int) pe_int (nomark _)) (pss_cons (ps_set (i := 1) sc_law_minds.nd rfl (by first | exact Or.inl rfl | exact Or.inr rfl) (pe_op op_add pe_int (pe_op op_mod (pe_op op_fdiv (pv 2) pe_int) (pe_op op_add (pe_callB call_len_seq (by rfl) T.len bo_len (pa_cons (pv 0) pa_nil)) pe_int))))
        (pss_cons (ps_for PassesOwn.never rfl (pi_list (pe_step (pv 0) pe_int)) (pg_name (i := 4) sc_law_minds.nd rfl (by first | exact Or.inl rfl | exact Or.inr rfl)) (pss_cons (ps_par (i := 5) (j := 6) rfl sc_law_minds.nd rfl rfl (by decide) rfl rfl (pa_cons (pe_op op_mod (pe_op op_fdiv (pv 4) pe_int) (pv 1)) (pa_cons (pe_op op_mod (pe_op op_fdiv (pe_op op_fdiv (pv 4) pe_int) (pv 1)) (pv 1)) pa_nil)) (by rfl))
          (pss_one (ps_expr (pe_bm PySem.F.plainAttrs_list PySem.F.slot_list_append PySem.F.type_list_append mt_append (pv 3) (pa_cons (pe_tup (pa_cons (pe_callB (call_min2 rfl) (by rfl) T.min bo_min (pa_cons (pv 5) (pa_cons (pv 6) pa_nil))) (pa_cons (pe_callB (call_max2 rfl) (by rfl) T.max bo_max (pa_cons (pv 5) (pa_cons (pv 6) pa_nil))) pa_nil))) pa_nil))))))
        (pss_one (ps_ret (pe_tup (pa_cons (pv 1) (pa_cons (pe_callB (call_sortedT rfl) (by rfl) T.sorted bo_sorted (pa_cons (pe_callTy (call_setT rfl (hr.un2 8 (by decide))) (by rfl) T.set bo_set (pa_cons (pe_comp (N := ["_law_pair"]) (src := [none]) rfl (CompScope.of (M := N_law_minds) (sc := defScope s_law_minds) (by decide +kernel)) (pi_list (pv 3)) (fun _ _ _ _ _ => (pg_own (i := 0) (by decide +kernel) rfl rfl)) (fun _ _ _ _ _ => (pts_one (pt_cmpR op_lt (pe_ix (r := rIxT K) ix_tup (pv 0) pe_int (fun _ _ => rfl)) (pe_ix (r := rIxT K) ix_tup (pv 0) pe_int (fun _ _ => rfl)) (nomark _)))) (fun _ _ _ _ _ => (pv 0))) pa_nil)) pa_nil)) pa_nil))))))) pss_nil)
      (pss_cons (ps_for PassesOwn.never rfl (pi_range1 rfl T.range (pa_cons (pv 1) pa_nil)) (pg_name (i := 5) sc_law_minds.nd rfl (by first | exact Or.inl rfl | exact Or.inr rfl)) (pss_one (ps_for PassesOwn.never rfl (pi_range2 rfl T.range (pa_cons (pe_op op_add (pv 5) pe_int) (pa_cons (pv 1) pa_nil))) (pg_name (i := 6) sc_law_minds.nd rfl (by first | exact Or.inl rfl | exact Or.inr rfl)) (pss_cons (ps_if (pt_cmpR op_lt (pe_op op_mod (pv 2) pe_int) pe_int (nomark _)) (pss_one (ps_expr (pe_bm PySem.F.plainAttrs_list PySem.F.slot_list_append PySem.F.type_list_append mt_append (pv 3) (pa_cons (pe_tup (pa_cons (pv 5) (pa_cons (pv 6) pa_nil))) pa_nil)))) pss_nil)
          (pss_one (ps_set (i := 2) sc_law_minds.nd rfl (by first | exact Or.inl rfl | exact Or.inr rfl) (pe_op op_add (pe_op op_fdiv (pv 2) pe_int) (pe_op op_mul pe_int (pv 6)))))))))
      (pss_one (ps_ret (pe_tup (pa_cons (pv 1) (pa_cons (pv 3) pa_nil)))))))), ?_⟩
    refine ⟨_, rfl, a, ns, rfl, hS, _, _, rfl, rfl, (show (0 : Int) < 6 by decide), _, _, rfl, rfl, _, rfl, a, ns, rfl, hS, _, _, rfl, rfl, ⟨by decide, by decide⟩, _, rfl, a, _, rfl, .inl hS, _, _, rfl, rfl, Nat.zero_le _, fun pl hpl => ⟨_, _, _, rfl, ?_⟩⟩
    have s1 : Same H (upd H pl (.lst [])) := Same.new hpl
    have g0 : Gath H (upd H pl (.lst [])) pl [] := ⟨s1, upd_same, (fun _ z => nomatch z)⟩
    have big : 1000 < sizeLine := by decide
    refine ⟨_, rfl, _, _, rfl, rfl, (show (0 : Int) < 3 by decide), rfl, _, rfl, ite2 (fun _ => ?_) (fun _ => ?_)⟩
    · refine ⟨_, rfl, _, _, rfl, rfl, ⟨by decide, by decide⟩, _, rfl, a, _, rfl, .inl (s1.seq hS), _, _, rfl, rfl, _, _, rfl, rfl, ?_, _, _, rfl, rfl, ?_⟩
      · show (0 : Int) < ((ns.map V.int).length : Int) + 1
        omega
      dsimp only
      generalize hcode : ns.sum / 6 + ((ns.map V.int).length : Int) = code
      have hkinds : ∃ kinds : Int, kinds = 1 + code / 3 % (((ns.map V.int).length : Int) + 1) ∧ 1 ≤ kinds ∧ kinds ≤ 64 := by
        refine ⟨_, rfl, ?_, ?_⟩
        · have := Int.emod_nonneg (code / 3) (show ((ns.map V.int).length : Int) + 1 ≠ 0 by omega)
          omega
        · have := Int.emod_lt_of_pos (code / 3) (show (0 : Int) < ((ns.map V.int).length : Int) + 1 by omega)
          simp only [List.length_map] at this ⊢
          omega
      obtain ⟨kinds, ek, hk1, hk2⟩ := hkinds
      rw [← ek]
      refine ⟨_, rfl, a, _, _, rfl, rfl, by decide, s1.seq hS, fun D0 hD0 => ⟨D0, rfl, ⟨_, SqL.of upd_same⟩, ?_⟩⟩
      have nD : pl ≠ D0 := ne_of_none upd_same hD0
      rw [stepL_map]
      have hcs : (stepL ns 2).length ≤ ns.length := stepL_length ns 2 (by decide)
      refine for_list (K := K) (a := D0) (xs := (stepL ns 2).map V.int) (fun i σ H2 => ∃ qs v4 v5 v6, σ = [some (.ref a), some (.int kinds), some (.int code), some (.ref pl), v4, v5, v6] ∧ Gath H H2 pl qs ∧ H2 D0 = some (.lst ((stepL ns 2).map V.int)) ∧ qs.length = i ∧ ∀ q ∈ qs, ∃ x y : Int, q.1 = [x, y] ∧ 0 ≤ x ∧ x ≤ y ∧ y < kinds)
        ⟨[], _, _, _, rfl, ⟨g0.same.upd (s1.free hD0), by rw [upd_ne nD]; exact upd_same, (fun _ z => nomatch z)⟩, upd_same, rfl, (fun _ z => nomatch z)⟩ (fun i σ H2 _ ⟨_, _, _, _, _, _, e, _⟩ => SqL.of e) ?_ ?_
      · rintro i y σ H2 hi ⟨qs, v4, v5, v6, rfl, g, hD, hq, hqs⟩
        obtain ⟨z, hz, rfl⟩ := get_int hi
        have hil : i < (stepL ns 2).length := (List.getElem?_eq_some_iff.mp hz).1
        have hkp : (0 : Int) < kinds := by omega
        refine ⟨_, rfl, _, _, rfl, rfl, ⟨by decide, by decide⟩, _, rfl, _, _, rfl, rfl, hkp, _, rfl, _, _, rfl, rfl, ⟨by decide, by decide⟩, _, rfl, _, _, rfl, rfl, ⟨hkp, by omega⟩, _, rfl, _, _, rfl, rfl, hkp, _, _, rfl, ?_⟩
        have b1 := Int.emod_nonneg (z / 90) (show kinds ≠ 0 by omega)
        have b2 := Int.emod_lt_of_pos (z / 90) hkp
        have b3 := Int.emod_nonneg (z / 90 / kinds) (show kinds ≠ 0 by omega)
        have b4 := Int.emod_lt_of_pos (z / 90 / kinds) hkp
        refine ⟨_, rfl, .inl ⟨rfl, _, SqL.of g.lst⟩, _, rfl, _, rfl, _, _, rfl, _, rfl, _, rfl, _, _, rfl, (by show 2 ≤ sizeLine; decide), fun t ht => ?_⟩
        have npt : pl ≠ t := ne_of_none g.lst ht
        refine ⟨pl, _, _, rfl, rfl, by rw [upd_ne npt]; exact g.lst, by rw [List.length_map]; omega, ?_⟩
        refine ⟨qs ++ [([min (z / 90 % kinds) (z / 90 / kinds % kinds), max (z / 90 % kinds) (z / 90 / kinds % kinds)], t)], _, _, _, rfl, ?_, ?_, by simp [hq], fun q hq' => ?_⟩
        · have := g.add (ks := [min (z / 90 % kinds) (z / 90 / kinds % kinds), max (z / 90 % kinds) (z / 90 / kinds % kinds)]) hpl ht
          rw [← min_if, ← max_if] at this
          rw [← min_if, ← max_if]
          exact this
        · rw [upd_ne (Ne.symm nD), upd_ne (ne_of_none hD ht)]; exact hD
        · rcases List.mem_append.mp hq' with h | h
          · exact hqs q h
          · have : q = ([min (z / 90 % kinds) (z / 90 / kinds % kinds), max (z / 90 % kinds) (z / 90 / kinds % kinds)], t) := by simpa using h
            subst this
            exact ⟨_, _, rfl, by omega, by omega, by omega⟩
      · rintro σ H2 ⟨qs, v4, v5, v6, rfl, g, hD, hq, hqs⟩
        rw [List.length_map] at hq
        have hq64 : qs.length < 64 := by omega
        -- the comprehension
        refine ⟨_, rfl, _, rfl, pl, rfl, ⟨_, SqL.of g.lst⟩, comp_list (lesser H2) id (by rw [List.length_map]; omega) (SqL.of g.lst) (fun i x H3 T F hx s3 h1 h2 => ?_) (fun D H3 hD' hd s2 => ?_)⟩
        · obtain ⟨q, hq1, rfl⟩ : ∃ q, q ∈ qs ∧ x = .ref q.2 := by
            have := List.mem_of_getElem? hx
            obtain ⟨q, h1, h2⟩ := List.mem_map.mp this
            exact ⟨q, h1, h2.symm⟩
          obtain ⟨x, y, e, _⟩ := hqs q hq1
          have ht := g.tup q hq1
          rw [e] at ht
          have el : lesser H2 (.ref q.2) = decide (x < y) := by simp only [lesser, ht]; rfl
          have ht3 := s3 _ _ ht
          refine ⟨Ext.set rfl, ?_⟩
          refine ⟨_, rfl, q.2, _, _, _, rfl, rfl, SqT.of ht3, rfl, _, rfl, q.2, _, _, _, rfl, rfl, SqT.of ht3, rfl, _, _, rfl, rfl, _, rfl, ite2 (fun c => ?_) (fun c => ?_)⟩
          · exact ⟨_, rfl, h1 (by rw [el]; exact c) H3 (Same.refl _)⟩
          · exact h2 (by rw [el]; simpa using c) H3 (Same.refl _)
        · have hfil : ((qs.map fun q => V.ref q.2).filter (lesser H2)).map id = (qs.filter ltq).map fun q => V.ref q.2 := by
            rw [List.map_id, List.filter_map]
            congr 1
            apply List.filter_congr
            intro q hq1
            obtain ⟨x, y, e, _⟩ := hqs q hq1
            have ht := g.tup q hq1
            rw [e] at ht
            show lesser H2 (.ref q.2) = ltq q
            simp only [lesser, ht, ltq, e]; rfl
          rw [hfil] at hd
          have hfl : (qs.filter ltq).length ≤ qs.length := List.length_filter_le _ _
          have htq : ∀ q ∈ qs.filter ltq, H3 q.2 = some (.tup (q.1.map V.int)) := fun q hq1 => s2 _ _ (g.tup q (List.mem_filter.mp hq1).1)
          refine ⟨D, qs.filter ltq, rfl, SqL.of hd, htq, by omega, fun p ps hp hpl' hsub hnd hcov => ?_⟩
          have htp : ∀ q ∈ ps, q.1 ≠ [] ∧ upd H3 p (SetO P w p ps) q.2 = some (.tup (q.1.map V.int)) := fun q hq1 => by
            have hm := hsub q hq1
            obtain ⟨x, y, e, _⟩ := hqs q (List.mem_filter.mp hm).1
            exact ⟨by rw [e]; simp, by rw [upd_ne (ne_of_none (htq q hm) hp)]; exact htq q hm⟩
          refine ⟨p, ps, rfl, upd_same, htp, hnd, by omega, fun D2 out hD2 hperm => ?_⟩
          refine ⟨by show 2 ≤ sizeLine; decide, fun t ht => ?_⟩
          have nDt : D2 ≠ t := fun z => by rw [z, upd_same] at ht; cases ht
          have s4 : Same H3 (upd (upd (upd H3 p (SetO P w p ps)) D2 (.lst (out.map fun q => V.ref q.2))) t (.tup [.int kinds, .ref D2])) := fun b o e => by
            have e1 := Same.new (o := SetO P w p ps) hp b o e
            have e2 := Same.new (o := .lst (out.map fun q => V.ref q.2)) hD2 b o e1
            exact Same.new (o := .tup [.int kinds, .ref D2]) ht b o e2
          have sH := (g.same.trans s2).trans s4
          refine k t D2 _ kinds (out.map (·.1)) sH upd_same ⟨_, SqL.of (by rw [upd_ne nDt]; exact upd_same), refs_paired fun q hq1 => ?_⟩ ⟨hk1, hk2, ?_, fun x hx => ?_, ?_⟩ ?_
          · have hm := (hperm.mem_iff).mp hq1
            have e1 := (htp q hm).2
            have e2 := Same.new (o := .lst (out.map fun q => V.ref q.2)) hD2 _ _ e1
            exact Same.new (o := .tup [.int kinds, .ref D2]) ht _ _ e2
          · exact (hperm.map (·.1)).nodup_iff.mpr hnd
          · obtain ⟨q, hq1, rfl⟩ := List.mem_map.mp hx
            have hm := hsub q ((hperm.mem_iff).mp hq1)
            obtain ⟨h1, h2⟩ := List.mem_filter.mp hm
            obtain ⟨x, y, e, c1, c2, c3⟩ := hqs q h1
            simp only [ltq, e] at h2
            exact ⟨x, y, e, c1, of_decide_eq_true h2, c3⟩
          · rw [List.length_map, hperm.length_eq]; omega
          · have : H3 D2 = none := (Same.new (o := SetO P w p ps) hp).free hD2
            exact (g.same.trans s2).free this
    · dsimp only
      have hk0 : ∃ kinds : Int, kinds = 1 + ns.sum % 6 ∧ 1 ≤ kinds ∧ kinds ≤ 6 := ⟨_, rfl, by omega, by omega⟩
      obtain ⟨kinds, ek, hk1, hk2⟩ := hk0
      generalize hcode : ns.sum / 6 + ((ns.map V.int).length : Int) = code
      rw [← ek]
      refine ⟨_, rfl, kinds, rfl, by omega, by omega, for_range (lo := 0) (n := kinds.toNat) (fun i σ H2 => ∃ qs code v4 v5 v6, σ = [some (.ref a), some (.int kinds), some (.int code), some (.ref pl), v4, v5, v6] ∧ Gath H H2 pl qs ∧ (qs.map (·.1)).Nodup ∧ qs.length ≤ 6 * i ∧
          ∀ q ∈ qs, ∃ x y : Int, q.1 = [x, y] ∧ 0 ≤ x ∧ x < y ∧ y < kinds ∧ x < (i : Int)) ⟨[], _, _, _, _, rfl, g0, List.nodup_nil, Nat.zero_le _, (fun _ z => nomatch z)⟩ ?_ ?_⟩
      · rintro i σ H2 hi ⟨qs, code, v4, v5, v6, rfl, g, nd, hlen, hqs⟩
        refine ⟨_, rfl, _, _, rfl, rfl, _, rfl, 0 + (i : Int) + 1, kinds, rfl, ⟨by omega, by omega, by omega, by omega⟩, for_range (lo := 0 + (i : Int) + 1) (n := (kinds - (0 + (i : Int) + 1)).toNat) (fun j σ H2 => ∃ qs code v4 v6, σ = [some (.ref a), some (.int kinds), some (.int code), some (.ref pl), v4, some (.int (0 + (i : Int))), v6] ∧ Gath H H2 pl qs ∧ (qs.map (·.1)).Nodup ∧ qs.length ≤ 6 * i + j ∧
          ∀ q ∈ qs, ∃ x y : Int, q.1 = [x, y] ∧ 0 ≤ x ∧ x < y ∧ y < kinds ∧ (x < (i : Int) ∨ (x = (i : Int) ∧ y < (i : Int) + 1 + (j : Int)))) ⟨qs, code, _, _, rfl, g, nd, by omega, fun q hq => ?_⟩ ?_ ?_⟩
        · obtain ⟨x, y, e, c1, c2, c3, c4⟩ := hqs q hq
          exact ⟨x, y, e, c1, c2, c3, .inl c4⟩
        · rintro j σ H2 hj ⟨qs, code, v4, v6, rfl, g, nd, hlen, hqs⟩
          have hjk : (0 : Int) + (i : Int) + 1 + (j : Int) < kinds := by omega
          have tail : ∀ qs' H3, Gath H H3 pl qs' → (qs'.map (·.1)).Nodup → qs'.length ≤ 6 * i + (j + 1) → (∀ q ∈ qs', ∃ x y : Int, q.1 = [x, y] ∧ 0 ≤ x ∧ x < y ∧ y < kinds ∧ (x < (i : Int) ∨ (x = (i : Int) ∧ y < (i : Int) + 1 + ((j + 1 : Nat) : Int)))) →
              (∃ qs code' v4' v6', [some (.ref a), some (.int kinds), some (.int (code / 3 + 7 * (0 + (i : Int) + 1 + (j : Int)))), some (.ref pl), v4, some (.int (0 + (i : Int))), some (V.int (0 + (i : Int) + 1 + (j : Int)))] = [some (V.ref a), some (.int kinds), some (.int code'), some (.ref pl), v4', some (.int (0 + (i : Int))), v6'] ∧ Gath H H3 pl qs ∧ (qs.map (·.1)).Nodup ∧ qs.length ≤ 6 * i + (j + 1) ∧
          ∀ q ∈ qs, ∃ x y : Int, q.1 = [x, y] ∧ 0 ≤ x ∧ x < y ∧ y < kinds ∧ (x < (i : Int) ∨ (x = (i : Int) ∧ y < (i : Int) + 1 + ((j + 1 : Nat) : Int)))) := fun qs' H3 h1 h2 h3 h4 => ⟨qs', _, v4, _, rfl, h1, h2, h3, h4⟩
          refine ⟨_, rfl, _, _, rfl, rfl, (show (0 : Int) < 5 by decide), _, _, rfl, rfl, _, rfl, ite2 (fun _ => ?_) (fun _ => ?_)⟩
          · refine ⟨_, rfl, .inl ⟨rfl, _, SqL.of g.lst⟩, _, rfl, _, rfl, (by show 2 ≤ sizeLine; decide), fun t ht => ?_⟩
            have npt : pl ≠ t := ne_of_none g.lst ht
            refine ⟨pl, _, _, rfl, rfl, by rw [upd_ne npt]; exact g.lst, by rw [List.length_map]; omega, ?_⟩
            refine ⟨_, rfl, _, _, rfl, rfl, ⟨by decide, by decide⟩, _, rfl, _, _, rfl, rfl, .inl ⟨by decide, by decide⟩, _, _, rfl, rfl, ?_⟩
            refine tail (qs ++ [([0 + (i : Int), 0 + (i : Int) + 1 + (j : Int)], t)]) _ (g.add (ks := [0 + (i : Int), 0 + (i : Int) + 1 + (j : Int)]) hpl ht) ?_ (by simp; omega) (fun q hq' => ?_)
            · rw [List.map_append, List.nodup_append]
              refine ⟨nd, by simp, fun p hp p' hp' e => ?_⟩
              obtain ⟨q, hq1, rfl⟩ := List.mem_map.mp hp
              obtain ⟨x, y, e1, c1, c2, c3, c4⟩ := hqs q hq1
              have : p' = [0 + (i : Int), 0 + (i : Int) + 1 + (j : Int)] := by simpa using hp'
              rw [this, e1] at e
              simp only [List.cons.injEq, and_true] at e
              omega
            · rcases List.mem_append.mp hq' with h | h
              · obtain ⟨x, y, e1, c1, c2, c3, c4⟩ := hqs q h
                exact ⟨x, y, e1, c1, c2, c3, by omega⟩
              · have : q = ([0 + (i : Int), 0 + (i : Int) + 1 + (j : Int)], t) := by simpa using h
                subst this
                exact ⟨_, _, rfl, by omega, by omega, hjk, .inr ⟨by omega, by omega⟩⟩
          · refine ⟨_, rfl, _, _, rfl, rfl, ⟨by decide, by decide⟩, _, rfl, _, _, rfl, rfl, .inl ⟨by decide, by decide⟩, _, _, rfl, rfl, ?_⟩
            exact tail qs H2 g nd (by omega) fun q hq => by
              obtain ⟨x, y, e1, c1, c2, c3, c4⟩ := hqs q hq
              exact ⟨x, y, e1, c1, c2, c3, by omega⟩
        · rintro σ H2 ⟨qs, code, v4, v6, rfl, g, nd, hlen, hqs⟩
          refine ⟨qs, code, _, _, _, rfl, g, nd, by omega, fun q hq => ?_⟩
          obtain ⟨x, y, e1, c1, c2, c3, c4⟩ := hqs q hq
          exact ⟨x, y, e1, c1, c2, c3, by omega⟩
      · rintro σ H2 ⟨qs, code, v4, v5, v6, rfl, g, nd, hlen, hqs⟩
        refine ⟨_, rfl, _, rfl, (by show 2 ≤ sizeLine; decide), fun t ht => ?_⟩
        refine k t pl _ kinds (qs.map (·.1)) (g.same.upd (g.same.free ht)) upd_same ?_ ⟨hk1, by omega, nd, fun x hx => ?_, by rw [List.length_map]; omega⟩ hpl
        · exact PairsAt.same g.pairs (Same.new ht)
        · obtain ⟨q, hq1, rfl⟩ := List.mem_map.mp hx
          obtain ⟨x, y, e1, c1, c2, c3, c4⟩ := hqs q hq1
          exact ⟨x, y, e1, c1, c2, c3⟩
end
end J
namespace J
open PySem L2
def rowAt (l : List Int) (js : List Nat) (i : Nat) : List Int := (js.take i).foldl swp l
def okStep (ps : List (List Int)) (l : List Int) (js : List Nat) (i : Nat) : Prop := mind ps ((rowAt l js i).getD (js.getD i 0) 0) ((rowAt l js i).getD (js.getD i 0 + 1) 0) = false
structure Stop (ps : List (List Int)) (l : List Int) (js : List Nat) (i : Nat) : Prop where
  le : i ≤ js.length
  ok : ∀ j < i, okStep ps l js j
  no : i < js.length → ¬ okStep ps l js i
def FitP (l : List Int) (js : List Nat) : Prop := ∀ j ∈ js, j + 1 < l.length
def intsP (js : List Nat) : List Int := js.map Int.ofNat
theorem rowAt_succ {l : List Int} {js : List Nat} {i j : Nat} (h : js[i]? = some j) : rowAt l js (i + 1) = swp (rowAt l js i) j := by
  unfold rowAt
  have hlt : i < js.length := (List.getElem?_eq_some_iff.mp h).1
  rw [List.take_succ, h, List.foldl_append]
  rfl
theorem fold_len (js : List Nat) : ∀ l : List Int, (js.foldl swp l).length = l.length := by
  induction js with
  | nil => intro l; rfl
  | cons j js ih => intro l; rw [List.foldl_cons, ih, swp_len]
theorem rowAt_len (l : List Int) (js : List Nat) (i : Nat) : (rowAt l js i).length = l.length := fold_len _ _
theorem fold_mem {x : Int} (js : List Nat) : ∀ l : List Int, FitP l js → x ∈ js.foldl swp l → x ∈ l := by
  induction js with
  | nil => intro l _ h; exact h
  | cons j js ih =>
    intro l hf h
    have hj : j + 1 < l.length := hf j (List.mem_cons_self ..)
    rw [List.foldl_cons] at h
    exact (swp_mem hj).mp (ih _ (fun k hk => by rw [swp_len]; exact hf k (List.mem_cons_of_mem _ hk)) h)
theorem rowAt_mem {l : List Int} {js : List Nat} {i : Nat} {x : Int} (hf : FitP l js) (h : x ∈ rowAt l js i) : x ∈ l := fold_mem _ _ (fun k hk => hf k (List.mem_of_mem_take hk)) h
theorem rowAt_take {l : List Int} {js : List Nat} {i k : Nat} (h : k ≤ i) : rowAt l (js.take i) k = rowAt l js k := by
  unfold rowAt
  rw [List.take_take, Nat.min_eq_left h]
theorem okStep_take {ps : List (List Int)} {l : List Int} {js : List Nat} {i k : Nat} (h : k < i) (hi : i ≤ js.length) : okStep ps l (js.take i) k ↔ okStep ps l js k := by
  unfold okStep
  have e : (js.take i).getD k 0 = js.getD k 0 := by rw [List.getD_eq_getElem?_getD, List.getD_eq_getElem?_getD, List.getElem?_take_of_lt h]
  rw [rowAt_take (Nat.le_of_lt h), e]
theorem Stop.cut {ps : List (List Int)} {l : List Int} {js : List Nat} {i : Nat} (h : Stop ps l js i) : Stop ps l (js.take i) (js.take i).length := by
  have e : (js.take i).length = i := by rw [List.length_take, Nat.min_eq_left h.le]
  rw [e]
  exact ⟨by rw [e]; exact Nat.le_refl _, fun j hj => (okStep_take hj h.le).mpr (h.ok j hj), fun z => absurd z (by rw [e]; exact Nat.lt_irrefl _)⟩
theorem Stop.uniq {ps : List (List Int)} {l : List Int} {js : List Nat} {i k : Nat} (h : Stop ps l js i) (g : Stop ps l js k) : i = k := by
  rcases Nat.lt_trichotomy i k with z | z | z
  · exact absurd (g.ok i z) (h.no (Nat.lt_of_lt_of_le z g.le))
  · exact z
  · exact absurd (h.ok k z) (g.no (Nat.lt_of_lt_of_le z h.le))
theorem intsP_get {js : List Nat} {i j : Nat} (h : js[i]? = some j) : (intsP js)[i]? = some (j : Int) := by unfold intsP; rw [List.getElem?_map, h]; rfl
theorem get_intsP {js : List Nat} {i : Nat} {v : V} (h : ((intsP js).map V.int)[i]? = some v) : ∃ j, js[i]? = some j ∧ v = .int (j : Int) := by
  unfold intsP at h
  rw [List.map_map, List.getElem?_map] at h
  cases e : js[i]? with
  | none => rw [e] at h; cases h
  | some j => rw [e] at h; exact ⟨j, rfl, (Option.some.inj h).symm⟩
theorem intsP_len (js : List Nat) : (intsP js).length = js.length := by unfold intsP; rw [List.length_map]
theorem okStep_at {ps : List (List Int)} {l : List Int} {js : List Nat} {i j : Nat} {x y : Int} (h : js[i]? = some j) (hx : (rowAt l js i)[j]? = some x) (hy : (rowAt l js i)[j + 1]? = some y) : okStep ps l js i ↔ mind ps x y = false := by
  unfold okStep
  rw [show js.getD i 0 = j from by rw [List.getD_eq_getElem?_getD, h]; rfl, getD_of hx, getD_of hy]
theorem ixn {n j : Nat} (h : j < n) : ixN n (j : Int) = some j := by
  unfold ixN
  rw [if_pos (by omega), if_pos (by omega), Int.toNat_natCast]
structure XN where
  deed : Addr
  badMinds : Addr
  badRow : Addr
  badPlaces : Addr
  minding : Addr
structure TxtE (K : PySem.W.Frag) (mg : Str → Option Value) (CM : Addr) (A : XN) : Prop extends Txt K mg CM where
  m_DeedError : mg "DeedError" = some (.ref A.deed)
  m_BadMinds : mg "BadMinds" = some (.ref A.badMinds)
  m_BadRow : mg "BadRow" = some (.ref A.badRow)
  m_BadPlaces : mg "BadPlaces" = some (.ref A.badPlaces)
  m_Minding : mg "Minding" = some (.ref A.minding)
  kin : XKin K A.minding A.deed
  nAt : NoAttr K A.minding "at"
  kM : PySem.W.kitOne K (.ref A.minding) (.ref A.minding) = some true
  k1 : PySem.W.kitOne K (.ref A.minding) (.ref A.badMinds) = some false
  k2 : PySem.W.kitOne K (.ref A.minding) (.ref A.badPlaces) = some false
  k3 : PySem.W.kitOne K (.ref A.minding) (.ref A.badRow) = some false
  exm : PySem.W.exmOne K (.ref A.minding) (.ref A.deed) = some true
  rd : PySem.W.readsIn K A.deed (.type "type") = true
  sp : PySem.W.specialIn K (.ref A.deed) "__getattribute__" = some (some (.builtin "type.__getattribute__"))
  fc : PySem.W.findCls K (.ref A.deed) (.type "type") "__init__" = some (.val (.builtin "ValueError.__init__"))
theorem kit_of {K : PySem.W.Frag} {D C : Addr} {b : Bool} (hc : PySem.W.isClsIn K C = true) (ht : PySem.W.typeIn K (.ref C) = some (.type "type")) (hs : PySem.W.subIn K (.ref D) (.ref C) = some b) (hne : b = true ∨ Nat.beq D C = false) : PySem.W.kitOne K (.ref D) (.ref C) = some b := by
  have h0 : (PySem.W.clsIn K C).isSome = true := hc
  have key : PySem.W.kitCls K (.ref D) (.ref C) = some b := by
    show (if ((PySem.W.clsIn K C).isSome && PySem.W.typeIn K (.ref C) == some (.type "type")) = true then PySem.W.subIn K (.ref D) (.ref C) else none) = some b
    rw [h0, ht, hs]; rfl
  unfold PySem.W.kitOne
  split
  · rename_i e
    rcases hne with rfl | hne
    · rfl
    · have e1 : D = C := by have := beq_iff_eq.mp e; cases this; rfl
      rw [e1, Nat.beq_refl] at hne; cases hne
  · exact key
theorem exm_of {K : PySem.W.Frag} {D C : Addr} (hb : PySem.W.subIn K (.ref C) (.type "BaseException") = some true) (hc : PySem.W.isClsIn K C = true) (ht : PySem.W.typeIn K (.ref C) = some (.type "type")) (hs : PySem.W.subIn K (.ref D) (.ref C) = some true) : PySem.W.exmOne K (.ref D) (.ref C) = some true := by
  have h0 : (PySem.W.clsIn K C).isSome = true := hc
  unfold PySem.W.exmOne
  rw [hb, if_pos (by decide)]
  show (if ((PySem.W.clsIn K C).isSome && PySem.W.typeIn K (.ref C) == some (.type "type")) = true then PySem.W.subIn K (.ref D) (.ref C) else none) = some true
  rw [h0, ht, hs]; rfl
def strKey (e : DictEntry) : Bool := match e.key with | .str _ _ => true | _ => false
theorem strKeys_of {es : Array DictEntry} (h : es.toList.all strKey = true) : StrKeys es := fun e he => by
  have q := List.all_eq_true.mp h e (Array.mem_toList_iff.mpr he)
  unfold strKey at q
  split at q
  · rename_i n t hk
    exact ⟨n, t, hk⟩
  · cases q
theorem passE {P : Program} {w : World} {X : Cx} : Passes (CXe P w) X E0 := fun _ _ _ _ _ _ _ ⟨_, _, _, _, _, _, _, _, z⟩ => z.elim
def spCheckPlaces (K : PySem.W.Frag) : Sp := fun vs H Q _ => ∃ (a : Addr) (ns : List Int) (c : Addr) (js : List Nat), vs = [.ref a, .ref c] ∧ SqL K H a (ns.map V.int) ∧ SqL K H c ((intsP js).map V.int) ∧ FitP ns js ∧ Q .non H
def spMinding (A : XN) : Sp := fun vs H Q _ => ∃ (x : Addr) (k : Int), vs = [.ref x, .int k] ∧ H x = some (XO x A.minding none .none) ∧ ∀ dx, H dx = none → dx ≠ x → Q .non (upd (upd H dx (.xd [("at", .int k)])) x (XO x A.minding (some dx) .none))
structure Told (A : XN) (H : Hp) (i : Nat) (e : Value) (od : Option Addr) (H' : Hp) : Prop where
  ex : ∃ x dx T, e = .ref x ∧ od = some dx ∧ H' x = some (XO x A.minding (some dx) (.ref T)) ∧ H' dx = some (.xd [("at", .int i)]) ∧ H' T = some (TBo T) ∧ T ≠ x ∧ H x = none
  sm : Same H H'
def spExchanged (K : PySem.W.Frag) (CM : Addr) (A : XN) : Sp := fun vs H Q E => ∃ (m : Addr) (kinds : Int) (ps : List (List Int)) (a : Addr) (ns : List Int) (c : Addr) (js : List Nat), vs = [.ref m, .ref a, .ref c] ∧ MindsAt CM H m kinds ps ∧ SqL K H a (ns.map V.int) ∧ H c = some (.lst ((intsP js).map V.int)) ∧
  ns.length ≤ 64 ∧ (∀ x ∈ ns, 0 ≤ x ∧ x < kinds) ∧ FitP ns js ∧
  (Stop ps ns js js.length → ∀ D H', H D = none → H' D = some (.lst ((rowAt ns js js.length).map V.int)) → Same H H' → Q (.ref D) H') ∧
  ∀ i, Stop ps ns js i → i < js.length → ∀ e od H', Told A H i e od H' → E e od H'
section
variable {P : Program} {w : World} {K : PySem.W.Frag} {mg : Str → Option Value} {base : Heap} {CM : Addr} {A : XN}
abbrev N_check_places : List Str := ["row", "places"]
theorem sc_check_places : FnScope N_check_places ["row", "places"] (defScope s_check_places) := ⟨rfl, rfl, rfl, by decide +kernel, rfl, by decide +kernel, by decide +kernel⟩
theorem ok_check_places (D : Def K mg "check_places" s_check_places ["row", "places"]) (T : Blt mg) (O_is_list_below : Own P w K mg base CX0 3 "is_list_below" ["values", "bound"] (spListBelow K)) : Own P w K mg base CX0 4 "check_places" ["row", "places"] (spCheckPlaces K) := D.own fun f fd F => by
  refine F.ok sc_check_places (fun vs H Q E h => ?_) (fun cdv A outer s H vs Q E hr h => ?_)
  · obtain ⟨a, ns, c, js, rfl, _⟩ := h
    rfl
  · obtain ⟨a, ns, c, js, rfl, hS, hC, hf, q⟩ := h
    refine ⟨_, (pss_one (ps_if (pt_not (pt_val (pe_own O_is_list_below (hr.mono (by decide)) (by rfl) pass0 (pa_cons (pv 1) (pa_cons (pe_op op_sub (pe_callB call_len_seq (by rfl) T.len bo_len (pa_cons (pv 0) pa_nil)) pe_int) pa_nil))) (fun _ => rfl))) (pss_one ps_never) pss_nil)), ?_⟩
    refine ⟨_, rfl, _, rfl, a, _, rfl, .inl hS, _, _, rfl, rfl, c, intsP js, _, rfl, hC, _, rfl, ?_⟩
    have hall : (intsP js).all (below (((ns.map V.int).length : Int) - 1)) = true := by
      rw [List.all_eq_true]
      intro x hx
      unfold intsP at hx
      obtain ⟨j, hj, rfl⟩ := List.mem_map.mp hx
      have := hf j hj
      rw [List.length_map]
      unfold below
      simp
      omega
    rw [hall]
    exact iteF q
abbrev N_Minding_init : List Str := ["self", "at"]
theorem sc_Minding_init : FnScope N_Minding_init ["self", "at"] (defScope s_Minding_init) := ⟨rfl, rfl, rfl, by decide +kernel, rfl, by decide +kernel, by decide +kernel⟩
theorem ok_Minding {f : Addr} {fd : FuncData} (F : Fun K "__init__" "Minding.__init__" s_Minding_init f fd) (T : TxtE K mg CM A) : FnOk P w K mg base CX0 1 f fd ["self", "at"] (spMinding A) := by
  refine F.ok sc_Minding_init (fun vs H Q E h => ?_) (fun cdv Ar outer s H vs Q E hr h => ?_)
  · obtain ⟨x, k, rfl, _⟩ := h
    rfl
  · obtain ⟨x, k, rfl, hx, q⟩ := h
    refine ⟨_, (pss_cons (ps_expr (pe_xinit (by rfl) T.m_DeedError T.rd T.sp T.fc (pa_cons (pv 0) (pa_cons pe_str pa_nil)))) (pss_one (ps_xset (D := A.deed) (pv 0) (pv 1)))), ?_⟩
    exact ⟨_, rfl, x, A.minding, _, rfl, hx, T.kin.cls, _, rfl, _, rfl, x, A.minding, rfl, hx, T.kin.cls, T.nAt, fun dx h1 h2 => q dx h1 h2⟩
abbrev N_exchanged : List Str := ["minds", "row", "places", "moved", "at", "place", "ahead", "behind"]
theorem sc_exchanged : FnScope N_exchanged ["minds", "row", "places"] (defScope s_exchanged) := ⟨rfl, rfl, rfl, by decide +kernel, rfl, by decide +kernel, by decide +kernel⟩
theorem ok_exchanged (D : Def K mg "exchanged" s_exchanged ["minds", "row", "places"]) (T : TxtE K mg CM A) (O_check_row : Own P w K mg base CX0 5 "check_row" ["minds", "row"] (spCheckRow K CM)) (O_check_places : Own P w K mg base CX0 4 "check_places" ["row", "places"] (spCheckPlaces K))
    (O_Minds_mind : OwnM P w K mg base CX0 4 CM "mind" ["self", "one", "other"] (spMindM CM)) (O_Minding : OwnX P w K mg base CX0 1 A.minding A.deed "Minding" ["self", "at"] (spMinding A)) :
    Own P w K mg base (CXe P w) 6 "exchanged" ["minds", "row", "places"] (spExchanged K CM A) := by
  obtain ⟨f, fd, F, hm, hb⟩ := D
  refine ⟨f, fd, ?_, hm, F.kp, hb⟩
  refine F.okX sc_exchanged (fun vs H Q E h => ?_) (fun cdv Ar outer s H vs Q E hr h => ?_)
  · obtain ⟨m, kinds, ps, a, ns, c, js, rfl, _⟩ := h
    rfl
  · obtain ⟨m, kinds, ps, a, ns, c, js, rfl, hM, hS, hC, hl, hb, hf, q1, q2⟩ := h
    obtain ⟨dx0, pd, nd, nk, hm0, _⟩ := id hM.ex
    refine ⟨_, (pss_cons (ps_expr (pe_own O_check_row (hr.mono (by decide)) (by rfl) pass0 (pa_cons (pv 0) (pa_cons (pv 1) pa_nil))))
      (pss_cons (ps_expr (pe_own O_check_places (hr.mono (by decide)) (by rfl) pass0 (pa_cons (pv 1) (pa_cons (pv 2) pa_nil))))
      (pss_cons (ps_set (i := 3) sc_exchanged.nd rfl (by first | exact Or.inl rfl | exact Or.inr rfl) (pe_callTy (call_list_ofK (K := K) rfl) (by rfl) T.list bo_list (pa_cons (pv 1) pa_nil)))
      (pss_cons (ps_for PassesOwn.leaving rfl (pi_enum (by rfl) T.enumerate (pa_cons (pv 2) pa_nil)) (pg_tup rfl (pgs_cons (pg_name (i := 4) sc_exchanged.nd rfl (by first | exact Or.inl rfl | exact Or.inr rfl)) (pgs_cons (pg_name (i := 5) sc_exchanged.nd rfl (by first | exact Or.inl rfl | exact Or.inr rfl)) pgs_nil))) (pss_cons (ps_set (i := 6) sc_exchanged.nd rfl (by first | exact Or.inl rfl | exact Or.inr rfl) (pe_ix (r := rIxL K) ix_list (pv 3) (pv 5) (fun _ _ => rfl)))
        (pss_cons (ps_set (i := 7) sc_exchanged.nd rfl (by first | exact Or.inl rfl | exact Or.inr rfl) (pe_ix (r := rIxL K) ix_list (pv 3) (pe_op op_add (pv 5) pe_int) (fun _ _ => rfl)))
        (pss_cons (ps_if (pt_val (pe_ownM (pv 0) T.c_Minds O_Minds_mind (hr.mono (by decide)) pass0 (pa_cons (pv 6) (pa_cons (pv 7) pa_nil))) (fun _ => rfl)) (pss_one (ps_raise (D := A.deed) leaves_cx rfl (pe_ownX O_Minding (hr.mono (by decide)) (by rfl) pass0 (pa_cons (pv 4) pa_nil)))) pss_nil)
        (pss_cons (ps_asg (pv 7) (pg_sub (pv 3) (pv 5) set_list))
        (pss_one (ps_asg (pv 6) (pg_sub (pv 3) (pe_op op_add (pv 5) pe_int) set_list))))))))
      (pss_one (ps_ret (pv 3))))))), ?_⟩
    refine ⟨_, rfl, _, rfl, m, kinds, ps, a, ns, rfl, hM, hS, hb, ?_⟩
    refine ⟨_, rfl, _, rfl, a, ns, c, js, rfl, hS, SqL.of hC, hf, ?_⟩
    refine ⟨_, rfl, a, _, rfl, .inl hS, fun L hL => ?_⟩
    have s0 : Same H (upd H L (.lst (ns.map V.int))) := Same.new hL
    refine ⟨_, rfl, c, _, rfl, .inl (s0 _ _ hC), for_enum (l := c) (xs := (intsP js).map V.int) (fun i σ H2 => Same H H2 ∧ (∃ v4 v5 v6 v7, σ = [some (.ref m), some (.ref a), some (.ref c), some (.ref L), v4, v5, v6, v7]) ∧ H2 L = some (.lst ((rowAt ns js i).map V.int)) ∧ ∀ j < i, okStep ps ns js j)
      ⟨s0, ⟨_, _, _, _, rfl⟩, upd_same, fun j hj => absurd hj (Nat.not_lt_zero _)⟩ (fun i σ H2 _ ⟨e, _⟩ => .inl (e _ _ hC)) ?_ ?_⟩
    · rintro i y T1 σ H2 hi ⟨s2, ⟨v4, v5, v6, v7, rfl⟩, hd, hok⟩ hT1
      obtain ⟨j, hj, rfl⟩ := get_intsP hi
      have hlt : i < js.length := (List.getElem?_eq_some_iff.mp hj).1
      have hjl : j + 1 < (rowAt ns js i).length := by rw [rowAt_len]; exact hf j (List.mem_of_getElem? hj)
      obtain ⟨out, eo⟩ : ∃ out, out = rowAt ns js i := ⟨_, rfl⟩
      have hmem : ∀ z ∈ out, 0 ≤ z ∧ z < kinds := fun z hz => hb z (rowAt_mem hf (eo ▸ hz))
      have hsu : rowAt ns js (i + 1) = swp out j := by rw [eo]; exact rowAt_succ hj
      have hst : ∀ x y, out[j]? = some x → out[j + 1]? = some y → (okStep ps ns js i ↔ mind ps x y = false) := fun x y h1 h2 => okStep_at hj (by rw [← eo]; exact h1) (by rw [← eo]; exact h2)
      rw [← eo] at hjl hd
      have g1 : out[j]? = some (out[j]'(by omega)) := List.getElem?_eq_getElem _
      have g2 : out[j + 1]? = some out[j + 1] := List.getElem?_eq_getElem hjl
      have v1 : atI (out.map V.int) (j : Int) = some (.int (out[j]'(by omega))) := atI_nat (by rw [List.getElem?_map, g1]; rfl)
      have v2 : atI (out.map V.int) ((j : Int) + 1) = some (.int out[j + 1]) := atI_nat (j := j + 1) (by rw [List.getElem?_map, g2]; rfl)
      have b1 := hmem _ (List.mem_of_getElem? g1)
      have b2 := hmem _ (List.mem_of_getElem? g2)
      have st : Same H2 (upd H2 T1 (.tup [.int i, .int j])) := Same.new hT1
      have hd3 := st _ _ hd
      have hM3 := (hM.same s2).same st
      obtain ⟨dx3, pd3, nd3, nk3, hm3, _⟩ := id hM3.ex
      refine ⟨T1, _, rfl, SqT.of upd_same, rfl, _, _, rfl, _, _, rfl, rfl, ?_⟩
      refine ⟨_, rfl, _, rfl, L, _, _, _, rfl, rfl, SqL.of hd3, v1, ?_⟩
      refine ⟨_, rfl, _, rfl, _, _, rfl, rfl, L, _, _, _, rfl, rfl, SqL.of hd3, v2, ?_⟩
      refine ⟨_, rfl, m, dx3, _, rfl, hm3, flds_no _ _ _ (by decide +kernel) (by decide +kernel) (by decide +kernel), _, rfl, _, rfl, m, kinds, ps, _, _, rfl, hM3, b1.1, b1.2, b2.1, b2.2, fun H4 s4 => ⟨_, rfl, ?_⟩⟩
      have s04 : Same H H4 := (s2.trans st).trans s4
      cases hmi : mind ps (out[j]'(by omega)) out[j + 1] with
      | true =>
        have hStop : Stop ps ns js i := ⟨Nat.le_of_lt hlt, hok, fun _ z => by rw [(hst _ _ g1 g2)] at z; rw [z] at hmi; cases hmi⟩
        refine iteT ⟨_, rfl, (by show 1 ≤ 100; decide), fun x hx => ⟨x, _, rfl, upd_same, fun dx h1 h2 => ⟨rfl, x, A.minding, some dx, rfl, upd_same, T.kin.cls, fun TT hTT hne => q2 i hStop hlt _ _ _ ⟨⟨x, dx, TT, rfl, rfl, ?_, ?_, upd_same, hne, s04.free hx⟩, fun b u e => ?_⟩⟩⟩⟩
        · rw [upd_ne (Ne.symm hne), upd_same]
        · have e : (upd (upd (upd H4 x (XO x A.minding none .none)) dx (.xd [("at", .int i)])) x (XO x A.minding (some dx) .none)) dx = some (.xd [("at", .int i)]) := by rw [upd_ne h2, upd_same]
          rw [upd_ne (ne_of_none e hTT), upd_ne h2]
          exact e
        · have e4 := s04 _ _ e
          have n1 : b ≠ x := ne_of_none e4 hx
          have e5 : (upd H4 x (XO x A.minding none .none)) b = some u := by rw [upd_ne n1]; exact e4
          have n2 : b ≠ dx := ne_of_none e5 h1
          have e6 : (upd (upd (upd H4 x (XO x A.minding none .none)) dx (.xd [("at", .int i)])) x (XO x A.minding (some dx) .none)) b = some u := by rw [upd_ne n1, upd_ne n2]; exact e5
          rw [upd_ne (ne_of_none e6 hTT), upd_ne n1]
          exact e6
      | false =>
        have hd4 := s4 _ _ hd3
        refine iteF ⟨_, rfl, _, rfl, _, rfl, L, _, _, j, rfl, rfl, hd4, ixn (by rw [List.length_map]; omega), ?_⟩
        refine ⟨_, rfl, _, rfl, _, rfl, _, _, rfl, rfl, L, _, _, j + 1, rfl, rfl, upd_same, ixn (j := j + 1) (by rw [List.length_set, List.length_map]; omega), ?_⟩
        refine ⟨fun b u e => ?_, ⟨_, _, _, _, rfl⟩, ?_, fun k hk => ?_⟩
        · rw [upd_ne (ne_of_none e hL), upd_ne (ne_of_none e hL)]
          exact s04 _ _ e
        · rw [upd_same, hsu, ← swp_V V.int hjl g1 g2]
        · rcases Nat.lt_or_ge k i with z | z
          · exact hok k z
          · rw [show k = i by omega]
            exact (hst _ _ g1 g2).mpr hmi
    · rintro σ H2 ⟨s2, ⟨v4, v5, v6, v7, rfl⟩, hd, hok⟩
      rw [List.length_map, intsP_len] at hd hok
      exact ⟨_, rfl, q1 ⟨Nat.le_refl _, hok, fun z => absurd z (Nat.lt_irrefl _)⟩ L H2 hL hd s2⟩
end
end J
namespace J
open PySem L2
theorem Same.put {H H' : Hp} {a : Addr} {o : HO} (s : Same H H') (h : H a = none) : Same H (L2.upd H' a o) := fun b u e => by rw [upd_ne (ne_of_none e h)]; exact s b u e
def spHad1 (K : PySem.W.Frag) (CM : Addr) : Sp := fun vs H Q _ => ∃ (m : Addr) (kinds : Int) (ps : List (List Int)) (a : Addr) (ns : List Int) (c d : Int), vs = [.ref m, .ref a, .int c, .int d] ∧ MindsAt CM H m kinds ps ∧ 0 ≤ c ∧ c < kinds ∧ 0 ≤ d ∧ d < kinds ∧ mind ps c d = true ∧ SqL K H a (ns.map V.int) ∧ ns.length ≤ 1000 ∧ (∀ x ∈ ns, 0 ≤ x ∧ x < kinds) ∧
  ∀ D H', H D = none → H' D = some (.lst ((part ns c d).map V.int)) → Same H H' → Q (.ref D) H'
def spWalked (K : PySem.W.Frag) : Sp := fun vs H Q _ => ∃ (a : Addr) (ns : List Int) (pp : V) (ps : List (List Int)) (c : Addr) (js : List Nat), vs = [.ref a, pp, .ref c] ∧ SqL K H a (ns.map V.int) ∧ enP K H pp ps ∧ SqL K H c ((intsP js).map V.int) ∧ ns.length ≤ 64 ∧ js.length ≤ 200 ∧ FitP ns js ∧
  ∀ (i : Nat) (t D : Addr) (H' : Hp), Stop ps ns js i → H D = none → H' t = some (.tup [.ref D, .int i]) → H' D = some (.lst ((rowAt ns js i).map V.int)) → Same H H' → Q (.ref t) H'
def spKept (K : PySem.W.Frag) : Sp := fun vs H Q _ => ∃ (a : Addr) (ns : List Int) (pp : V) (ps : List (List Int)) (c : Addr) (js : List Nat), vs = [.ref a, pp, .ref c] ∧ SqL K H a (ns.map V.int) ∧ enP K H pp ps ∧ SqL K H c ((intsP js).map V.int) ∧ ns.length ≤ 64 ∧ js.length ≤ 200 ∧ FitP ns js ∧
  ∀ (D : Addr) (ks : List Nat) (H' : Hp), FitP ns ks → ks.length ≤ js.length → H D = none → H' D = some (.lst ((intsP ks).map V.int)) → Same H H' → Q (.ref D) H'
def spLawAt (K : PySem.W.Frag) (CM : Addr) : Sp := fun vs H Q _ => ∃ (m : Addr) (kinds : Int) (ps : List (List Int)) (a : Addr) (ns : List Int) (c : Addr) (js : List Nat) (i : Nat), vs = [.ref m, .ref a, .ref c] ∧ MindsAt CM H m kinds ps ∧ SqL K H a (ns.map V.int) ∧ H c = some (.lst ((intsP js).map V.int)) ∧
  ns.length ≤ 64 ∧ (∀ x ∈ ns, 0 ≤ x ∧ x < kinds) ∧ FitP ns js ∧ Stop ps ns js i ∧ i < js.length ∧ ∀ H', Same H H' → Q (.int i) H'
section
variable {P : Program} {w : World} {K : PySem.W.Frag} {mg : Str → Option Value} {base : Heap} {CM : Addr} {A : XN}
abbrev N_had : List Str := ["minds", "row", "one", "other"]
theorem sc_had : FnScope N_had ["minds", "row", "one", "other"] (defScope s_had) := ⟨rfl, rfl, rfl, by decide +kernel, rfl, by decide +kernel, by decide +kernel⟩
theorem ok_had (D : Def K mg "had" s_had ["minds", "row", "one", "other"]) (T : Txt K mg CM) (O_check_row : Own P w K mg base CX0 5 "check_row" ["minds", "row"] (spCheckRow K CM)) (O_Minds_mind : OwnM P w K mg base CX0 4 CM "mind" ["self", "one", "other"] (spMindM CM)) :
    Own P w K mg base CX0 6 "had" ["minds", "row", "one", "other"] (spHad1 K CM) := D.own fun f fd F => by
  refine F.ok sc_had (fun vs H Q E h => ?_) (fun cdv A outer s H vs Q E hr h => ?_)
  · obtain ⟨m, kinds, ps, a, ns, c, d, rfl, _⟩ := h
    rfl
  · obtain ⟨m, kinds, ps, a, ns, c, d, rfl, hM, h0, h1, h2, h2', h3, hS, hl, hb, q⟩ := h
    obtain ⟨dx, pd, nd, nk, hm, _⟩ := id hM.ex
    refine ⟨_, (pss_cons (ps_expr (pe_own O_check_row (hr.mono (by decide)) (by rfl) pass0 (pa_cons (pv 0) (pa_cons (pv 1) pa_nil))))
      (pss_cons (ps_if (pt_not (pt_val (pe_ownM (pv 0) T.c_Minds O_Minds_mind (hr.mono (by decide)) pass0 (pa_cons (pv 2) (pa_cons (pv 3) pa_nil))) (fun _ => rfl))) (pss_one ps_never) pss_nil)
      (pss_one (ps_ret (pe_comp (N := ["kind", "one", "other"]) (src := [none, some 2, some 3]) rfl (CompScope.of (M := N_had) (sc := defScope s_had) (by decide +kernel)) (pi_list (pv 1)) (fun _ _ _ _ _ => (pg_own (i := 0) (by decide +kernel) rfl rfl)) (fun _ _ _ _ _ => (pts_one (PW.pt (pw_or (pt_cmpR op_eq (pv 0) (pv 1) (nomark _)) (pw_or1 (pt_cmpR op_eq (pv 0) (pv 2) (nomark _))))))) (fun _ _ _ _ _ => (pv 0))))))), ?_⟩
    refine ⟨_, rfl, _, rfl, m, kinds, ps, a, ns, rfl, hM, hS, hb, ?_⟩
    refine ⟨_, rfl, m, dx, _, rfl, hm, flds_no _ _ _ (by decide +kernel) (by decide +kernel) (by decide +kernel), _, rfl, _, rfl, m, kinds, ps, c, d, rfl, hM, h0, h1, h2, h2', fun H1 s1 => ⟨_, rfl, ?_⟩⟩
    rw [h3]
    refine iteF ?_
    have hS1 := s1.seq hS
    refine ⟨_, rfl, a, rfl, ⟨_, hS1⟩, comp_list (onB fun z => decide (z = c) || decide (z = d)) id (by rw [List.length_map]; exact len_line (by omega)) hS1 (fun i x H3 T F hx s3 h1 h2 => ?_) (fun D H2 hD hd s2 => q D H2 (s1.free hD) ?_ (s1.trans s2))⟩
    · obtain ⟨z, hz, rfl⟩ := get_int hx
      refine ⟨Ext.set rfl, ?_⟩
      refine ⟨_, rfl, _, rfl, rfl, _, rfl, ite2 (fun e => ?_) (fun e => ?_)⟩
      · rw [dec_vint] at e
        exact iteT ⟨_, rfl, h1 (by simp [onB, of_decide_eq_true e]) H3 (Same.refl _)⟩
      · rw [dec_vint] at e
        refine ⟨_, rfl, _, rfl, rfl, _, rfl, ite2 (fun e' => ?_) (fun e' => ?_)⟩
        · rw [dec_vint] at e'
          exact ⟨_, rfl, h1 (by simp [onB, of_decide_eq_true e']) H3 (Same.refl _)⟩
        · rw [dec_vint] at e'
          exact h2 (by simp only [onB, Bool.or_eq_false_iff]; exact ⟨by simpa using e, by simpa using e'⟩) H3 (Same.refl _)
    · rw [hd, filt_int, List.map_id]
      rfl
abbrev N_law_walked : List Str := ["_law_row_here", "_law_pairs", "_law_places", "_law_found", "_law_at_here", "_law_place"]
theorem sc_law_walked : FnScope N_law_walked ["_law_row_here", "_law_pairs", "_law_places"] (defScope s_law_walked) := ⟨rfl, rfl, rfl, by decide +kernel, rfl, by decide +kernel, by decide +kernel⟩
theorem ok_law_walked (D : Def K mg "_law_walked" s_law_walked ["_law_row_here", "_law_pairs", "_law_places"]) (T : Blt mg) (O__law_mind : Own P w K mg base CX0 1 "_law_mind" ["_law_pairs", "_law_one", "_law_other"] (spMind K)) :
    Own P w K mg base CX0 2 "_law_walked" ["_law_row_here", "_law_pairs", "_law_places"] (spWalked K) := D.own fun f fd F => by
  refine F.ok sc_law_walked (fun vs H Q E h => ?_) (fun cdv A outer s H vs Q E hr h => ?_)
  · obtain ⟨a, ns, pp, ps, c, js, rfl, _⟩ := h
    rfl
  · obtain ⟨a, ns, pp, ps, c, js, rfl, hS, hP, hC, hl, hjl0, hf, q⟩ := h
    refine ⟨_, (pss_cons (ps_set (i := 3) sc_law_walked.nd rfl (by first | exact Or.inl rfl | exact Or.inr rfl) (pe_callTy (call_list_ofK (K := K) rfl) (by rfl) T.list bo_list (pa_cons (pv 0) pa_nil)))
      (pss_cons (ps_for PassesOwn.never rfl (pi_range1 rfl T.range (pa_cons (pe_callB call_len_seq (by rfl) T.len bo_len (pa_cons (pv 2) pa_nil)) pa_nil)) (pg_name (i := 4) sc_law_walked.nd rfl (by first | exact Or.inl rfl | exact Or.inr rfl)) (pss_cons (ps_set (i := 5) sc_law_walked.nd rfl (by first | exact Or.inl rfl | exact Or.inr rfl) (pe_ix (r := rIxL K) ix_list (pv 2) (pv 4) (fun _ _ => rfl)))
        (pss_cons (ps_if (pt_val (pe_own O__law_mind (hr.mono (by decide)) (by rfl) pass0 (pa_cons (pv 1) (pa_cons (pe_ix (r := rIxL K) ix_list (pv 3) (pv 5) (fun _ _ => rfl)) (pa_cons (pe_ix (r := rIxL K) ix_list (pv 3) (pe_op op_add (pv 5) pe_int) (fun _ _ => rfl)) pa_nil)))) (fun _ => rfl)) (pss_one (ps_ret (pe_tup (pa_cons (pv 3) (pa_cons (pv 4) pa_nil))))) pss_nil)
        (pss_one (ps_asg (pe_tup (pa_cons (pe_ix (r := rIxL K) ix_list (pv 3) (pe_op op_add (pv 5) pe_int) (fun _ _ => rfl)) (pa_cons (pe_ix (r := rIxL K) ix_list (pv 3) (pv 5) (fun _ _ => rfl)) pa_nil))) (pg_tup rfl (pgs_cons (pg_sub (pv 3) (pv 5) set_list) (pgs_cons (pg_sub (pv 3) (pe_op op_add (pv 5) pe_int) set_list) pgs_nil))))))))
      (pss_one (ps_ret (pe_tup (pa_cons (pv 3) (pa_cons (pe_callB call_len_seq (by rfl) T.len bo_len (pa_cons (pv 2) pa_nil)) pa_nil))))))), ?_⟩
    refine ⟨_, rfl, a, _, rfl, .inl hS, fun L hL => ?_⟩
    have s0 : Same H (upd H L (.lst (ns.map V.int))) := Same.new hL
    have elen : ((intsP js).map V.int).length = js.length := by rw [List.length_map, intsP_len]
    refine ⟨_, rfl, c, _, rfl, .inl (s0.seq hC), _, rfl, by omega, by rw [elen]; omega, for_range (lo := 0) (n := ((((intsP js).map V.int).length : Int)).toNat) (fun i σ H2 => Same H H2 ∧ (∃ v4 v5, σ = [some (.ref a), some pp, some (.ref c), some (.ref L), v4, v5]) ∧ H2 L = some (.lst ((rowAt ns js i).map V.int)) ∧ ∀ j < i, okStep ps ns js j)
      ⟨s0, ⟨_, _, rfl⟩, upd_same, fun j hj => absurd hj (Nat.not_lt_zero _)⟩ ?_ ?_⟩
    · rintro i σ H2 hi ⟨s2, ⟨v4, v5, rfl⟩, hd, hok⟩
      rw [elen] at hi
      have hlt : i < js.length := by omega
      obtain ⟨j, hj⟩ : ∃ j, js[i]? = some j := ⟨_, List.getElem?_eq_getElem hlt⟩
      have hjl : j + 1 < (rowAt ns js i).length := by rw [rowAt_len]; exact hf j (List.mem_of_getElem? hj)
      obtain ⟨out, eo⟩ : ∃ out, out = rowAt ns js i := ⟨_, rfl⟩
      have hsu : rowAt ns js (i + 1) = swp out j := by rw [eo]; exact rowAt_succ hj
      have hst : ∀ x y, out[j]? = some x → out[j + 1]? = some y → (okStep ps ns js i ↔ mind ps x y = false) := fun x y h1 h2 => okStep_at hj (by rw [← eo]; exact h1) (by rw [← eo]; exact h2)
      rw [← eo] at hjl hd
      have g1 : out[j]? = some (out[j]'(by omega)) := List.getElem?_eq_getElem _
      have g2 : out[j + 1]? = some out[j + 1] := List.getElem?_eq_getElem hjl
      have v1 : atI (out.map V.int) (j : Int) = some (.int (out[j]'(by omega))) := atI_nat (by rw [List.getElem?_map, g1]; rfl)
      have v2 : atI (out.map V.int) ((j : Int) + 1) = some (.int out[j + 1]) := atI_nat (j := j + 1) (by rw [List.getElem?_map, g2]; rfl)
      have v0 : atI ((intsP js).map V.int) (0 + (i : Int)) = some (.int (j : Int)) := by rw [Int.zero_add]; exact atI_nat (by rw [List.getElem?_map, intsP_get hj]; rfl)
      refine ⟨_, rfl, _, rfl, c, _, _, _, rfl, rfl, s2.seq hC, v0, ?_⟩
      refine ⟨_, rfl, _, rfl, _, rfl, L, _, _, _, rfl, rfl, SqL.of hd, v1, _, rfl, _, rfl, _, _, rfl, rfl, L, _, _, _, rfl, rfl, SqL.of hd, v2, pp, ps, _, _, rfl, stays_pairs _ _ _ _ s2 hP, fun H3 s3 => ⟨_, rfl, ?_⟩⟩
      have hd3 := s3 _ _ hd
      cases hmi : mind ps (out[j]'(by omega)) out[j + 1] with
      | true =>
        refine iteT ⟨_, rfl, _, rfl, (by show 2 ≤ sizeLine; decide), fun t ht => ?_⟩
        have st : Same H3 (upd H3 t (.tup [.ref L, .int (0 + (i : Int))])) := Same.new ht
        refine q i t L _ ⟨Nat.le_of_lt hlt, hok, fun _ z => by rw [(hst _ _ g1 g2)] at z; rw [z] at hmi; cases hmi⟩ hL (by rw [upd_same, Int.zero_add]) ?_ ((s2.trans s3).trans st)
        rw [← eo]
        exact st _ _ hd3
      | false =>
        refine iteF ?_
        refine ⟨_, rfl, _, rfl, _, _, rfl, rfl, L, _, _, _, rfl, rfl, SqL.of hd3, v2, _, rfl, _, rfl, L, _, _, _, rfl, rfl, SqL.of hd3, v1, (by show 2 ≤ sizeLine; decide), fun t ht => ?_⟩
        have nLt : L ≠ t := ne_of_none hd3 ht
        refine ⟨t, _, rfl, SqT.of upd_same, rfl, _, _, rfl, _, rfl, _, rfl, L, _, _, j, rfl, rfl, by rw [upd_ne nLt]; exact hd3, ixn (by rw [List.length_map]; omega), ?_⟩
        refine ⟨_, _, rfl, _, rfl, _, rfl, _, _, rfl, rfl, L, _, _, j + 1, rfl, rfl, upd_same, ixn (j := j + 1) (by rw [List.length_set, List.length_map]; omega), rfl, ?_⟩
        refine ⟨fun b o e => ?_, ⟨_, _, rfl⟩, ?_, fun k hk => ?_⟩
        · have e3 := s3 _ _ (s2 _ _ e)
          rw [upd_ne (ne_of_none e hL), upd_ne (ne_of_none e hL), upd_ne (ne_of_none e3 ht)]
          exact e3
        · rw [upd_same, hsu, ← swp_V V.int hjl g1 g2]
        · rcases Nat.lt_or_ge k i with z | z
          · exact hok k z
          · rw [show k = i by omega]
            exact (hst _ _ g1 g2).mpr hmi
    · rintro σ H2 ⟨s2, ⟨v4, v5, rfl⟩, hd, hok⟩
      have en : ((((intsP js).map V.int).length : Int)).toNat = js.length := by rw [elen]; omega
      rw [en] at hd hok
      refine ⟨_, rfl, _, rfl, c, _, rfl, .inl (s2.seq hC), (by show 2 ≤ sizeLine; decide), fun t ht => ?_⟩
      rw [elen]
      have st : Same H2 (upd H2 t (.tup [.ref L, .int (js.length : Int)])) := Same.new ht
      exact q js.length t L _ ⟨Nat.le_refl _, hok, fun z => absurd z (Nat.lt_irrefl _)⟩ hL upd_same (st _ _ hd) (s2.trans st)
abbrev N_law_kept : List Str := ["_law_row_here", "_law_pairs", "_law_places", "_law_found", "_law_kept_here", "_law_place"]
theorem sc_law_kept : FnScope N_law_kept ["_law_row_here", "_law_pairs", "_law_places"] (defScope s_law_kept) := ⟨rfl, rfl, rfl, by decide +kernel, rfl, by decide +kernel, by decide +kernel⟩
theorem ok_law_kept (D : Def K mg "_law_kept" s_law_kept ["_law_row_here", "_law_pairs", "_law_places"]) (T : Blt mg) (O__law_mind : Own P w K mg base CX0 1 "_law_mind" ["_law_pairs", "_law_one", "_law_other"] (spMind K)) :
    Own P w K mg base CX0 2 "_law_kept" ["_law_row_here", "_law_pairs", "_law_places"] (spKept K) := D.own fun f fd F => by
  refine F.ok sc_law_kept (fun vs H Q E h => ?_) (fun cdv A outer s H vs Q E hr h => ?_)
  · obtain ⟨a, ns, pp, ps, c, js, rfl, _⟩ := h
    rfl
  · obtain ⟨a, ns, pp, ps, c, js, rfl, hS, hP, hC, hl, hjl0, hf, q⟩ := h
    refine ⟨_, (pss_cons (ps_par (i := 3) (j := 4) rfl sc_law_kept.nd rfl rfl (by decide) rfl rfl (pa_cons (pe_callTy (call_list_ofK (K := K) rfl) (by rfl) T.list bo_list (pa_cons (pv 0) pa_nil)) (pa_cons (pe_lst pa_nil) pa_nil)) (by rfl))
      (pss_cons (ps_for PassesOwn.never rfl (pi_list (pv 2)) (pg_name (i := 5) sc_law_kept.nd rfl (by first | exact Or.inl rfl | exact Or.inr rfl)) (pss_one (ps_if (pt_not (pt_val (pe_own O__law_mind (hr.mono (by decide)) (by rfl) pass0 (pa_cons (pv 1) (pa_cons (pe_ix (r := rIxL K) ix_list (pv 3) (pv 5) (fun _ _ => rfl)) (pa_cons (pe_ix (r := rIxL K) ix_list (pv 3) (pe_op op_add (pv 5) pe_int) (fun _ _ => rfl)) pa_nil)))) (fun _ => rfl))) (pss_cons (ps_asg (pe_tup (pa_cons (pe_ix (r := rIxL K) ix_list (pv 3) (pe_op op_add (pv 5) pe_int) (fun _ _ => rfl)) (pa_cons (pe_ix (r := rIxL K) ix_list (pv 3) (pv 5) (fun _ _ => rfl)) pa_nil))) (pg_tup rfl (pgs_cons (pg_sub (pv 3) (pv 5) set_list) (pgs_cons (pg_sub (pv 3) (pe_op op_add (pv 5) pe_int) set_list) pgs_nil))))
          (pss_one (ps_expr (pe_bm PySem.F.plainAttrs_list PySem.F.slot_list_append PySem.F.type_list_append mt_append (pv 4) (pa_cons (pv 5) pa_nil))))) pss_nil)))
      (pss_one (ps_ret (pv 4))))), ?_⟩
    refine ⟨_, rfl, a, _, rfl, .inl hS, fun L hL => ⟨Nat.zero_le _, fun O hO => ⟨_, _, rfl, ?_⟩⟩⟩
    have s1 : Same H (upd H L (.lst (ns.map V.int))) := Same.new hL
    have s2 : Same (upd H L (.lst (ns.map V.int))) (upd (upd H L (.lst (ns.map V.int))) O (.lst [])) := Same.new hO
    have s0 := s1.trans s2
    have nLO : L ≠ O := ne_of_none (upd_same (H := H) (a := L) (o := .lst (ns.map V.int))) hO
    have hOH : H O = none := s1.free hO
    refine ⟨_, rfl, c, rfl, ⟨_, s0.seq hC⟩, for_list (K := K) (a := c) (xs := (intsP js).map V.int) (fun i σ H2 => Same H H2 ∧ (∃ v5, σ = [some (.ref a), some pp, some (.ref c), some (.ref L), some (.ref O), v5]) ∧ ∃ out ks, H2 L = some (.lst (out.map V.int)) ∧ out.length = ns.length ∧ H2 O = some (.lst ((intsP ks).map V.int)) ∧ FitP ns ks ∧ ks.length ≤ i)
      ⟨s0, ⟨_, rfl⟩, ns, [], s2 _ _ upd_same, rfl, upd_same, fun j hj => absurd hj (by simp), Nat.le_refl _⟩ (fun i σ H2 _ ⟨e, _⟩ => e.seq hC) ?_ ?_⟩
    · rintro i y σ H2 hi ⟨s3, ⟨v5, rfl⟩, out, ks, hd, hol, hk, hfk, hkl⟩
      obtain ⟨j, hj, rfl⟩ := get_intsP hi
      have hfj := hf j (List.mem_of_getElem? hj)
      have hilt : i < js.length := (List.getElem?_eq_some_iff.mp hj).1
      have hjl : j + 1 < out.length := by rw [hol]; exact hfj
      have g1 : out[j]? = some (out[j]'(by omega)) := List.getElem?_eq_getElem _
      have g2 : out[j + 1]? = some out[j + 1] := List.getElem?_eq_getElem hjl
      have v1 : atI (out.map V.int) (j : Int) = some (.int (out[j]'(by omega))) := atI_nat (by rw [List.getElem?_map, g1]; rfl)
      have v2 : atI (out.map V.int) ((j : Int) + 1) = some (.int out[j + 1]) := atI_nat (j := j + 1) (by rw [List.getElem?_map, g2]; rfl)
      refine ⟨_, rfl, _, rfl, _, rfl, L, _, _, _, rfl, rfl, SqL.of hd, v1, _, rfl, _, rfl, _, _, rfl, rfl, L, _, _, _, rfl, rfl, SqL.of hd, v2, pp, ps, _, _, rfl, stays_pairs _ _ _ _ s3 hP, fun H3 s4 => ⟨_, rfl, ?_⟩⟩
      have hd3 := s4 _ _ hd
      have hk3 := s4 _ _ hk
      have s34 := s3.trans s4
      cases hm : mind ps (out[j]'(by omega)) out[j + 1] with
      | true => exact iteF ⟨s34, ⟨_, rfl⟩, out, ks, hd3, hol, hk3, hfk, by omega⟩
      | false =>
        refine iteT ?_
        refine ⟨_, rfl, _, rfl, _, _, rfl, rfl, L, _, _, _, rfl, rfl, SqL.of hd3, v2, _, rfl, _, rfl, L, _, _, _, rfl, rfl, SqL.of hd3, v1, (by show 2 ≤ sizeLine; decide), fun t ht => ?_⟩
        have nLt : L ≠ t := ne_of_none hd3 ht
        have nOt : O ≠ t := ne_of_none hk3 ht
        refine ⟨t, _, rfl, SqT.of upd_same, rfl, _, _, rfl, _, rfl, _, rfl, L, _, _, j, rfl, rfl, by rw [upd_ne nLt]; exact hd3, ixn (by rw [List.length_map]; omega), ?_⟩
        refine ⟨_, _, rfl, _, rfl, _, rfl, _, _, rfl, rfl, L, _, _, j + 1, rfl, rfl, upd_same, ixn (j := j + 1) (by rw [List.length_set, List.length_map]; omega), rfl, ?_⟩
        obtain ⟨H5, e5⟩ : ∃ H5, H5 = upd (upd (upd H3 t (.tup [.int out[j + 1], .int (out[j]'(by omega))])) L (.lst ((out.map V.int).set j (.int out[j + 1])))) L (.lst (((out.map V.int).set j (.int out[j + 1])).set (j + 1) (.int (out[j]'(by omega))))) := ⟨_, rfl⟩
        have s5 : Same H H5 := fun b u e => by
          have e3 := s34 _ _ e
          rw [e5, upd_ne (ne_of_none e hL), upd_ne (ne_of_none e hL), upd_ne (ne_of_none e3 ht)]
          exact e3
        have hL5 : H5 L = some (.lst ((swp out j).map V.int)) := by rw [e5, upd_same, ← swp_V V.int hjl g1 g2]
        have hO5 : H5 O = some (.lst ((intsP ks).map V.int)) := by rw [e5, upd_ne (Ne.symm nLO), upd_ne (Ne.symm nLO), upd_ne nOt]; exact hk3
        rw [← e5]
        refine ⟨_, rfl, .inl ⟨rfl, _, SqL.of hO5⟩, _, rfl, O, _, _, rfl, rfl, hO5, by rw [List.length_map, intsP_len]; exact small1000 (by omega), ?_⟩
        refine ⟨Same.put s5 hOH, ⟨_, rfl⟩, swp out j, ks ++ [j], by rw [upd_ne nLO]; exact hL5, by rw [swp_len]; exact hol, ?_, fun k hk' => ?_, by rw [List.length_append]; simp; omega⟩
        · rw [upd_same]
          unfold intsP
          simp
        · rcases List.mem_append.mp hk' with z | z
          · exact hfk k z
          · rw [show k = j by simpa using z]; exact hfj
    · rintro σ H2 ⟨s3, ⟨v5, rfl⟩, out, ks, hd, hol, hk, hfk, hkl⟩
      rw [List.length_map, intsP_len] at hkl
      exact ⟨_, rfl, q O ks H2 hfk hkl hOH hk s3⟩
abbrev N_law_at : List Str := ["_law_minds_here", "_law_row_here", "_law_places", "error", "_law_others"]
theorem sc_law_at : FnScope N_law_at ["_law_minds_here", "_law_row_here", "_law_places"] (defScope s_law_at) := ⟨rfl, rfl, rfl, by decide +kernel, rfl, by decide +kernel, by decide +kernel⟩
theorem ok_law_at (D : Def K mg "_law_at" s_law_at ["_law_minds_here", "_law_row_here", "_law_places"]) (T : TxtE K mg CM A) (O_exchanged : Own P w K mg base (CXe P w) 6 "exchanged" ["minds", "row", "places"] (spExchanged K CM A)) :
    Own P w K mg base CX0 7 "_law_at" ["_law_minds_here", "_law_row_here", "_law_places"] (spLawAt K CM) := D.own fun f fd F => by
  refine F.ok sc_law_at (fun vs H Q E h => ?_) (fun cdv Ar outer s H vs Q E hr h => ?_)
  · obtain ⟨m, kinds, ps, a, ns, c, js, i, rfl, _⟩ := h
    rfl
  · obtain ⟨m, kinds, ps, a, ns, c, js, i, rfl, hM, hS, hC, hl, hb, hf, hSt, hlt, q⟩ := h
    refine ⟨_, (pss_cons (ps_try (D := A.deed) (i := 3) O_exchanged (hr.mono (by decide)) rfl rfl (by rfl) (pa_cons (pv 0) (pa_cons (pv 1) (pa_cons (pv 2) pa_nil))) (by rfl) T.m_DeedError sc_law_at.nd rfl rfl (fun x => (pss_cons (ps_set (i := 4) sc_law_at.nd rfl (by first | exact Or.inl rfl | exact Or.inr rfl) (pe_lst (pa_cons (pe_callB call_isiX (by rfl) T.isinstance bo_isinstance (pa_cons (pv 3) (pa_cons (pe_glob (v := V.ref _) (by rfl) T.m_BadMinds rfl) pa_nil))) (pa_cons (pe_callB call_isiX (by rfl) T.isinstance bo_isinstance (pa_cons (pv 3) (pa_cons (pe_glob (v := V.ref _) (by rfl) T.m_BadPlaces rfl) pa_nil))) (pa_cons (pe_callB call_isiX (by rfl) T.isinstance bo_isinstance (pa_cons (pv 3) (pa_cons (pe_glob (v := V.ref _) (by rfl) T.m_BadRow rfl) pa_nil))) pa_nil)))))
        (pss_one (ps_ret (pe_ifExp (PW.pt (pw_and (pt_val (pe_callB call_isiX (by rfl) T.isinstance bo_isinstance (pa_cons (pv 3) (pa_cons (pe_glob (v := V.ref _) (by rfl) T.m_Minding rfl) pa_nil))) (fun _ => rfl)) (pw_and1 (pt_not (pt_val (pe_callB (call_anyX hr.hd) (by rfl) T.any bo_any (pa_cons (pv 4) pa_nil)) (fun _ => rfl)))))) (pe_xget (D := A.deed) (pv 3)) (pe_un un_neg pe_int)))))))
      (pss_one (ps_ret (pe_un un_neg pe_int)))), ?_⟩
    refine ⟨_, rfl, _, rfl, _, rfl, m, kinds, ps, a, ns, c, js, rfl, hM, hS, hC, hl, hb, hf, fun z => absurd hlt (by rw [hSt.uniq z]; exact Nat.lt_irrefl _), fun i' hSt' hlt' e od H' told => ?_⟩
    have ei := hSt.uniq hSt'
    subst ei
    obtain ⟨⟨x, dx, T1, rfl, rfl, hx, hdx, hT1, hTx, hxn⟩, sm⟩ := told
    refine ⟨x, A.minding, T1, rfl, hx, hT1, hTx, T.exm, fun T2 hT2 hne => ?_⟩
    have hdn : dx ≠ x := ne_of hdx hx (by intro z; cases z)
    obtain ⟨H5, e5⟩ : ∃ H5, H5 = upd (upd H' x (XO x A.minding (some dx) (.ref T2))) T2 (TBo T2) := ⟨_, rfl⟩
    have hx5 : H5 x = some (XO x A.minding (some dx) (.ref T2)) := by rw [e5, upd_ne (Ne.symm hne), upd_same]
    have hd5 : H5 dx = some (.xd [("at", .int i)]) := by rw [e5, upd_ne (ne_of_none hdx hT2), upd_ne hdn]; exact hdx
    rw [← e5]
    refine ⟨_, rfl, x, A.minding, A.deed, A.badMinds, dx, _, _, false, rfl, hx5, hd5, T.kin, T.k1, _, rfl, x, A.minding, A.deed, A.badPlaces, dx, _, _, false, rfl, hx5, hd5, T.kin, T.k2, _, rfl, x, A.minding, A.deed, A.badRow, dx, _, _, false, rfl, hx5, hd5, T.kin, T.k3, (by show 3 ≤ sizeLine; decide), fun l hl5 => ?_⟩
    have s6 : Same H5 (upd H5 l (.lst [.bl false, .bl false, .bl false])) := Same.new hl5
    have hx6 := s6 _ _ hx5
    have hd6 := s6 _ _ hd5
    have sH : Same H H5 := fun b u e => by
      have e' := sm _ _ e
      rw [e5, upd_ne (ne_of_none e' hT2), upd_ne (ne_of_none e hxn)]
      exact e'
    refine ⟨_, rfl, x, A.minding, A.deed, A.minding, dx, _, _, true, rfl, hx6, hd6, T.kin, T.kM, _, rfl, ?_⟩
    refine iteT ⟨_, rfl, l, [false, false, false], A.minding, some dx, .ref T2, rfl, SqL.of upd_same, hx6, _, rfl, iteT ?_⟩
    exact ⟨_, rfl, x, A.minding, dx, _, _, _, rfl, hx6, hd6, T.kin.cls, T.nAt, by simp [List.lookup], q _ (sH.trans s6)⟩
end
end J
namespace J
open PySem L2
def spLaw (K : PySem.W.Frag) : Sp := fun vs H Q _ => ∃ (a : Addr) (ns : List Int), vs = [.ref a] ∧ SqL K H a (ns.map V.int) ∧ ns.length ≤ 63 ∧ ∀ H', Q (.bl true) H'
theorem made_same {H H2 : Hp} {x dx : Addr} {o : HO} (hx : H x = none) (hdx : H dx = none) (sB : SameB x (upd (upd H dx (.own x)) x o) H2) : Same H H2 := fun b u e =>
  sB b u (by rw [upd_ne (ne_of_none e hx), upd_ne (ne_of_none e hdx)]; exact e) (ne_of_none e hx)
theorem MindsAt.put {CM : Addr} {H : Hp} {m l : Addr} {kinds : Int} {ps : List (List Int)} {xs : List V} {o : HO} (h : MindsAt CM H m kinds ps) (e : H l = some (.lst xs)) : MindsAt CM (upd H l o) m kinds ps := by
  obtain ⟨dx, pd, nd, nk, h1, h2, h3, h4⟩ := h.ex
  have st : ∀ b u, H b = some u → u ≠ .lst xs → (upd H l o) b = some u := fun b u hb hu => by rw [upd_ne (ne_of hb e hu)]; exact hb
  refine ⟨dx, pd, nd, nk, st _ _ h1 (by intro z; cases z), st _ _ h2 (by intro z; cases z), st _ _ h3 (by intro z; cases z), fun k => ?_⟩
  rcases h4 k with h | ⟨d, ks, g1, g2, g3⟩
  · exact .inl h
  · exact .inr ⟨d, ks, g1, st _ _ g2 (by intro z; cases z), g3⟩
theorem call_len_seqK {X : Cx} {K : PySem.W.Frag} (h : X.K = K) : CallR X (.builtin "len") (fun xs H Q => ∃ p ys, xs = [.ref p] ∧ (SqL K H p ys ∨ SqT K H p ys) ∧ Q (.int ys.length) H) := by
  subst h; exact call_len_seq
theorem split_cont {te : TE} {σ : St} {H : Hp} {k : VK} (S : V → Hp → Prop) (h1 : ∀ k : VK, (∀ v H', S v H' → k v H') → te σ H k) (h2 : ∀ v H', S v H' → k v H') : te σ H k := h1 k h2
theorem split_test {tt : TT} {σ : St} {H : Hp} {k : Bool → Hp → Prop} (S : Bool → Hp → Prop) (h1 : ∀ k : Bool → Hp → Prop, (∀ v H', S v H' → k v H') → tt σ H k) (h2 : ∀ v H', S v H' → k v H') : tt σ H k := h1 k h2
theorem cut_take {xs : List V} {i : Nat} (h : i ≤ xs.length) : cutV xs none (some (i : Int)) = xs.take i := by
  unfold cutV
  rw [HT.sIx_nat, HT.sIx_none, Nat.min_eq_left h]
  simp
theorem intsP_app (js ks : List Nat) : (intsP js).map V.int ++ (intsP ks).map V.int = (intsP (js ++ ks)).map V.int := by unfold intsP; simp
theorem enLL {K : PySem.W.Frag} {H : Hp} {p g h : Addr} {us ws : List Int} (e : H p = some (.lst [.ref g, .ref h])) (eg : H g = some (.lst (us.map V.int))) (eh : H h = some (.lst (ws.map V.int))) : enL K (enL K enI) H (.ref p) [us, ws] :=
  ⟨p, _, rfl, SqL.of e, .cons (enL_ints (SqL.of eg)) (.cons (enL_ints (SqL.of eh)) .nil)⟩
section
variable {P : Program} {w : World} {K : PySem.W.Frag} {mg : Str → Option Value} {base : Heap} {CM : Addr} {A : XN}
abbrev N_law : List Str := ["_law_script", "_law_kinds", "_law_pairs", "_law_handed", "_law_minds_here", "_law_row_here", "_law_places", "_law_some", "_law_due", "_law_at_here", "_law_again", "_law_found", "_law_one", "_law_other"]
theorem sc_law : FnScope N_law ["_law_script"] (defScope s_law) := ⟨rfl, rfl, rfl, by decide +kernel, rfl, by decide +kernel, by decide +kernel⟩
theorem ok_law {f : Addr} {fd : FuncData} (F : Fun K "law" "law" s_law f fd) (T : TxtE K mg CM A) (O__law_minds : Own P w K mg base CX0 1 "_law_minds" ["_law_script"] (spMinds K)) (O_Minds : OwnC P w K mg base CX0 6 CM "Minds" ["self", "kinds", "pairs"] (spMindsInit K CM))
    (O_Minds_pairs : OwnM P w K mg base CX0 1 CM "pairs" ["self"] (spPairs CM)) (O_Minds_mind : OwnM P w K mg base CX0 4 CM "mind" ["self", "one", "other"] (spMindM CM))
    (O__law_row : Own P w K mg base CX0 1 "_law_row" ["_law_script", "_law_kinds", "_law_by"] (spRow K)) (O__law_kept : Own P w K mg base CX0 2 "_law_kept" ["_law_row_here", "_law_pairs", "_law_places"] (spKept K))
    (O__law_walked : Own P w K mg base CX0 2 "_law_walked" ["_law_row_here", "_law_pairs", "_law_places"] (spWalked K)) (O__law_at : Own P w K mg base CX0 7 "_law_at" ["_law_minds_here", "_law_row_here", "_law_places"] (spLawAt K CM))
    (O_exchanged : Own P w K mg base (CXe P w) 6 "exchanged" ["minds", "row", "places"] (spExchanged K CM A)) (O__law_mind : Own P w K mg base CX0 1 "_law_mind" ["_law_pairs", "_law_one", "_law_other"] (spMind K))
    (O_had : Own P w K mg base CX0 6 "had" ["minds", "row", "one", "other"] (spHad1 K CM)) (O__law_part : Own P w K mg base CX0 1 "_law_part" ["_law_row_here", "_law_one", "_law_other"] (spPart K)) :
    FnOk P w K mg base CX0 8 f fd ["_law_script"] (spLaw K) := by
  refine F.ok sc_law (fun vs H Q E h => ?_) (fun cdv Ar outer s H vs Q E hr h => ?_)
  · obtain ⟨a, ns, rfl, _⟩ := h
    rfl
  · obtain ⟨a, ns, rfl, hS, hl, q⟩ := h
    have big : 1010 ≤ sizeLine := by decide
    refine ⟨_, (pss_cons (ps_asg (pe_own O__law_minds (hr.mono (by decide)) (by rfl) pass0 (pa_cons (pv 0) pa_nil)) (pg_tup rfl (pgs_cons (pg_name (i := 1) sc_law.nd rfl (by first | exact Or.inl rfl | exact Or.inr rfl)) (pgs_cons (pg_name (i := 2) sc_law.nd rfl (by first | exact Or.inl rfl | exact Or.inr rfl)) pgs_nil))))
      (pss_cons (ps_set (i := 3) sc_law.nd rfl (by first | exact Or.inl rfl | exact Or.inr rfl) (pe_callTy (call_list_ofK (K := K) rfl) (by rfl) T.list bo_list (pa_cons (pv 2) pa_nil)))
      (pss_cons (ps_set (i := 4) sc_law.nd rfl (by first | exact Or.inl rfl | exact Or.inr rfl) (pe_ownC O_Minds (hr.mono (by decide)) (by rfl) pass0 (pa_cons (pv 1) (pa_cons (pv 3) pa_nil))))
      (pss_cons (ps_expr (pe_bm PySem.F.plainAttrs_list PySem.F.slot_list_append PySem.F.type_list_append mt_append (pv 3) (pa_cons (pe_tup (pa_cons pe_int (pa_cons pe_int pa_nil))) pa_nil)))
      (pss_cons (ps_expr (pe_bm PySem.F.plainAttrs_list PySem.F.slot_list_append PySem.F.type_list_append mt_append (pe_ownM0 (pv 4) T.c_Minds O_Minds_pairs (hr.mono (by decide)) pass0) (pa_cons pe_int pa_nil)))
      (pss_cons (ps_if (PW.pt (pw_or (pt_cmpR op_ne (pe_fld (pv 4) rfl) (pv 1) (nomark _)) (pw_or1 (pt_cmpR (op_neL (eqk_tup eqk_int) (hr.un2 2 (by decide))) (pe_ownM0 (pv 4) T.c_Minds O_Minds_pairs (hr.mono (by decide)) pass0) (pv 2) (nomark _))))) (pss_one (ps_ret pe_bl)) pss_nil)
      (pss_cons (ps_set (i := 5) sc_law.nd rfl (by first | exact Or.inl rfl | exact Or.inr rfl) (pe_own O__law_row (hr.mono (by decide)) (by rfl) pass0 (pa_cons (pv 0) (pa_cons (pv 1) (pa_cons pe_int pa_nil)))))
      (pss_cons (ps_set (i := 6) sc_law.nd rfl (by first | exact Or.inl rfl | exact Or.inr rfl) (pe_ifExp (pt_cmpR op_gt (pe_callB call_len_seq (by rfl) T.len bo_len (pa_cons (pv 5) pa_nil)) pe_int (nomark _)) (pe_comp (N := ["_law_cell", "_law_row_here"]) (src := [none, some 5]) rfl (CompScope.of (M := N_law) (sc := defScope s_law) (by decide +kernel)) (pi_list (pv 0)) (fun _ _ _ _ _ => (pg_own (i := 0) (by decide +kernel) rfl rfl)) (fun _ _ _ _ _ => pts_nil) (fun _ _ _ _ _ => (pe_op op_mod (pe_op op_fdiv (pv 0) pe_int) (pe_op op_sub (pe_callB (call_len_seqK (K := K) rfl) (by rfl) T.len bo_len (pa_cons (pv 1) pa_nil)) pe_int)))) (pe_lst pa_nil)))
      (pss_cons (ps_for PassesOwn.never rfl (pi_list (pe_lst (pa_cons (pv 6) (pa_cons (pe_own O__law_kept (hr.mono (by decide)) (by rfl) pass0 (pa_cons (pv 5) (pa_cons (pv 2) (pa_cons (pe_op op_cat (pv 6) (pv 6)) pa_nil)))) (pa_cons (pe_lst pa_nil) pa_nil))))) (pg_name (i := 7) sc_law.nd rfl (by first | exact Or.inl rfl | exact Or.inr rfl)) (pss_cons (ps_asg (pe_own O__law_walked (hr.mono (by decide)) (by rfl) pass0 (pa_cons (pv 5) (pa_cons (pv 2) (pa_cons (pv 7) pa_nil)))) (pg_tup rfl (pgs_cons (pg_name (i := 8) sc_law.nd rfl (by first | exact Or.inl rfl | exact Or.inr rfl)) (pgs_cons (pg_name (i := 9) sc_law.nd rfl (by first | exact Or.inl rfl | exact Or.inr rfl)) pgs_nil))))
        (pss_cons (ps_set (i := 3) sc_law.nd rfl (by first | exact Or.inl rfl | exact Or.inr rfl) (pe_lst (pa_cons (pe_callTy (call_list_ofK (K := K) rfl) (by rfl) T.list bo_list (pa_cons (pv 5) pa_nil)) (pa_cons (pe_callTy (call_list_ofK (K := K) rfl) (by rfl) T.list bo_list (pa_cons (pv 7) pa_nil)) pa_nil))))
        (pss_cons (ps_if (PW.pt (pw_or (PW.pt (pw_and (pt_cmpR op_lt (pv 9) (pe_callB call_len_seq (by rfl) T.len bo_len (pa_cons (pv 7) pa_nil)) (nomark _)) (pw_and1 (pt_cmpR op_ne (pe_own O__law_at (hr.mono (by decide)) (by rfl) pass0 (pa_cons (pv 4) (pa_cons (pe_ix (r := rIxL K) ix_list (pv 3) pe_int (fun _ _ => rfl)) (pa_cons (pe_ix (r := rIxL K) ix_list (pv 3) pe_int (fun _ _ => rfl)) pa_nil)))) (pv 9) (nomark _))))) (pw_or1 (pt_cmpR (op_neL (eqk_list eqk_int) (hr.un2 2 (by decide))) (pv 3) (pe_lst (pa_cons (pv 5) (pa_cons (pv 7) pa_nil))) (nomark _))))) (pss_one (ps_ret pe_bl)) pss_nil)
        (pss_cons (ps_set (i := 3) sc_law.nd rfl (by first | exact Or.inl rfl | exact Or.inr rfl) (pe_lst (pa_cons (pe_callTy (call_list_ofK (K := K) rfl) (by rfl) T.list bo_list (pa_cons (pv 5) pa_nil)) (pa_cons (pe_slice sl_list (pv 7) po_none (po_some (pv 9))) pa_nil))))
        (pss_one (ps_for PassesOwn.never rfl (pi_range1 rfl T.range (pa_cons pe_int pa_nil)) (pg_name (i := 10) sc_law.nd rfl (by first | exact Or.inl rfl | exact Or.inr rfl)) (pss_cons (ps_set (i := 11) sc_law.nd rfl (by first | exact Or.inl rfl | exact Or.inr rfl) (pe_own O_exchanged (hr.mono (by decide)) (by rfl) passE (pa_cons (pv 4) (pa_cons (pe_ix (r := rIxL K) ix_list (pv 3) pe_int (fun _ _ => rfl)) (pa_cons (pe_ix (r := rIxL K) ix_list (pv 3) pe_int (fun _ _ => rfl)) pa_nil)))))
          (pss_cons (ps_if (PW.pt (pw_or (pt_not (pt_val (pe_callB (call_isiK (K := K) rfl) (by rfl) T.isinstance bo_isinstance (pa_cons (pv 11) (pa_cons (pe_bltn (v := V.ty "list") (by rfl) T.list bo_list rfl) pa_nil))) (fun _ => rfl))) (pw_or (pt_cmpR (op_neL eqk_int (hr.un2 1 (by decide))) (pv 11) (pv 8) (nomark _)) (pw_or1 (pt_cmpR (op_neL (eqk_list eqk_int) (hr.un2 2 (by decide))) (pv 3) (pe_lst (pa_cons (pv 5) (pa_cons (pe_slice sl_list (pv 7) po_none (po_some (pv 9))) pa_nil))) (nomark _)))))) (pss_one (ps_ret pe_bl)) pss_nil)
          (pss_one (ps_expr (pe_bm PySem.F.plainAttrs_list PySem.F.slot_list_append PySem.F.type_list_append mt_append (pv 11) (pa_cons pe_int pa_nil)))))))))))))
      (pss_cons (ps_for PassesOwn.never rfl (pi_range1 rfl T.range (pa_cons (pv 1) pa_nil)) (pg_name (i := 12) sc_law.nd rfl (by first | exact Or.inl rfl | exact Or.inr rfl)) (pss_one (ps_for PassesOwn.never rfl (pi_range1 rfl T.range (pa_cons (pv 1) pa_nil)) (pg_name (i := 13) sc_law.nd rfl (by first | exact Or.inl rfl | exact Or.inr rfl)) (pss_cons (ps_if (pt_cmpR op_ne (pe_ownM (pv 4) T.c_Minds O_Minds_mind (hr.mono (by decide)) pass0 (pa_cons (pv 12) (pa_cons (pv 13) pa_nil))) (pe_own O__law_mind (hr.mono (by decide)) (by rfl) pass0 (pa_cons (pv 2) (pa_cons (pv 12) (pa_cons (pv 13) pa_nil)))) (nomark _)) (pss_one (ps_ret pe_bl)) pss_nil)
          (pss_one (ps_if (pt_val (pe_own O__law_mind (hr.mono (by decide)) (by rfl) pass0 (pa_cons (pv 2) (pa_cons (pv 12) (pa_cons (pv 13) pa_nil)))) (fun _ => rfl)) (pss_one (ps_if (pt_cmpR (op_neL eqk_int (hr.un2 1 (by decide))) (pe_own O_had (hr.mono (by decide)) (by rfl) pass0 (pa_cons (pv 4) (pa_cons (pv 5) (pa_cons (pv 12) (pa_cons (pv 13) pa_nil))))) (pe_own O__law_part (hr.mono (by decide)) (by rfl) pass0 (pa_cons (pv 5) (pa_cons (pv 12) (pa_cons (pv 13) pa_nil)))) (nomark _)) (pss_one (ps_ret pe_bl)) pss_nil)) pss_nil))))))
      (pss_one (ps_ret pe_bl)))))))))))), ?_⟩
    refine ⟨_, rfl, a, ns, rfl, hS, hl, fun t pl H1 kinds ps s1 ht hP ok hpl => ⟨t, _, rfl, SqT.of ht, rfl, _, _, rfl, _, _, rfl, rfl, ?_⟩⟩
    obtain ⟨pxs, hpx, hpp⟩ := id hP
    refine ⟨_, rfl, pl, _, rfl, .inl hpx, fun l hl1 => ?_⟩
    refine ⟨_, rfl, _, rfl, fun x dx hx hdx hne => ?_⟩
    have sl : Same H1 (upd H1 l (.lst pxs)) := Same.new hl1
    refine ⟨x, dx, kinds, l, ps, rfl, upd_same, ⟨pxs, SqL.of ?_, Paired.mapP hpp fun _ _ ⟨q1, r1, z1⟩ => ⟨q1, r1, ?_⟩⟩, ok, fun H2 hM sB => ⟨rfl, ?_⟩⟩
    · have e : (upd H1 l (.lst pxs)) l = some (.lst pxs) := upd_same
      rw [upd_ne (ne_of_none e hx), upd_ne (ne_of_none e hdx)]; exact e
    · have e := sl _ _ z1
      rw [upd_ne (ne_of_none e hx), upd_ne (ne_of_none e hdx)]; exact e
    have sl2 := made_same hx hdx sB
    have s2 : Same H1 H2 := sl.trans sl2
    have hl2 : H2 l = some (.lst pxs) := sl2 _ _ upd_same
    have hpl2 : pxs.length = ps.length := Paired.length hpp
    have hfew := ok.few
    -- the handed list grows
    refine ⟨_, rfl, .inl ⟨rfl, _, SqL.of hl2⟩, (by show 2 ≤ sizeLine; decide), fun t2 ht2 => ?_⟩
    have st2 : Same H2 (upd H2 t2 (.tup [.int 0, .int 0])) := Same.new ht2
    refine ⟨l, _, _, rfl, rfl, st2 _ _ hl2, by rw [hpl2]; omega, ?_⟩
    obtain ⟨H3, e3⟩ : ∃ H3, H3 = upd (upd H2 t2 (.tup [.int 0, .int 0])) l (.lst (pxs ++ [.ref t2])) := ⟨_, rfl⟩
    have hM3 : MindsAt CM H3 x kinds ps := by rw [e3]; exact (hM.same st2).put (st2 _ _ hl2)
    have s3 : Same H1 H3 := by rw [e3]; exact Same.put (s2.trans st2) hl1
    rw [← e3]
    -- the told pairs grow
    obtain ⟨dx3, pd3, nd3, nk3, hm3, _⟩ := id hM3.ex
    refine ⟨_, rfl, x, dx3, _, rfl, hm3, flds_no _ _ _ (by decide +kernel) (by decide +kernel) (by decide +kernel), x, kinds, ps, rfl, hM3, fun D4 xs4 H4 hD4 hd4 hpp4 s4 => ⟨.inl ⟨rfl, _, SqL.of hd4⟩, D4, _, _, rfl, rfl, hd4, by rw [Paired.length hpp4]; omega, ?_⟩⟩
    obtain ⟨H5, e5⟩ : ∃ H5, H5 = upd H4 D4 (.lst (xs4 ++ [.int 0])) := ⟨_, rfl⟩
    have hM5 : MindsAt CM H5 x kinds ps := by rw [e5]; exact (hM3.same s4).put hd4
    have s5 : Same H1 H5 := by rw [e5]; exact Same.put (s3.trans s4) (s3.free hD4)
    rw [← e5]
    obtain ⟨dx5, pd5, nd5, nk5, hm5, _⟩ := id hM5.ex
    refine ⟨_, rfl, x, CM, dx5, _, _, rfl, hm5, T.c_Minds, T.nKinds, flds_kinds _ _ _, _, rfl, rfl, _, rfl, ite2 (fun e => absurd e (by simp)) fun _ => ?_⟩
    refine ⟨_, rfl, x, dx5, _, rfl, hm5, flds_no _ _ _ (by decide +kernel) (by decide +kernel) (by decide +kernel), x, kinds, ps, rfl, hM5, fun D6 xs6 H6 hD6 hd6 hpp6 s6 => ⟨_, rfl, ps, ps, false, PairsAt.en ⟨xs6, SqL.of hd6, hpp6⟩, (hP.same (s5.trans s6)).en, by simp, _, rfl, iteF ?_⟩⟩
    have s16 : Same H1 H6 := s5.trans s6
    have hM6 := hM5.same s6
    have sH6 : Same H H6 := s1.trans s16
    refine ⟨_, rfl, _, rfl, a, ns, kinds, 1, rfl, sH6.seq hS, by omega, by have := ok.pos; omega, by decide, by decide, fun aR H7 haR hdR s7 => ?_⟩
    have hkp : (0 : Int) < kinds := by have := ok.pos; omega
    obtain ⟨row, erow⟩ : ∃ row, row = ns.map fun z => z / 1 % kinds := ⟨_, rfl⟩
    rw [← erow] at hdR
    have hrl : row.length = ns.length := by rw [erow, List.length_map]
    have hrb : ∀ z ∈ row, 0 ≤ z ∧ z < kinds := fun z hz => by
      rw [erow] at hz
      obtain ⟨y, _, rfl⟩ := List.mem_map.mp hz
      exact ⟨Int.emod_nonneg _ (by omega), Int.emod_lt_of_pos _ hkp⟩
    have hP7 : PairsAt K H7 pl ps := (hP.same s16).same s7
    have hM7 := hM6.same s7
    have sH7 := sH6.trans s7
    -- the places
    dsimp only [gName, tSeq, tAsg]
    refine split_cont (te := tIf _ _ _) (fun v H8 => ∃ aP js, v = .ref aP ∧ H8 aP = some (.lst ((intsP js).map V.int)) ∧ FitP row js ∧ js.length ≤ 63 ∧ Same H7 H8) (fun k hk => ?_) ?_
    · have elen : ((row.map V.int).length : Int) = row.length := by rw [List.length_map]
      refine ⟨_, rfl, aR, _, rfl, .inl (SqL.of hdR), _, _, rfl, rfl, _, rfl, ite2 (fun e => ?_) (fun e => ?_)⟩
      · have hgt : 1 < row.length := by
          have := of_decide_eq_true e
          rw [elen] at this
          omega
        refine ⟨_, rfl, a, rfl, ⟨_, sH7.seq hS⟩, comp_list (fun _ => true) (onI fun z => z / 7 % ((row.length : Int) - 1)) (by rw [List.length_map]; exact len_line (by omega)) (sH7.seq hS) (fun i y H8 T' F' hy s8 h1 h2 => ?_) (fun D H8 hD hd s8 => hk _ _ ⟨D, ns.map fun z => (z / 7 % ((row.length : Int) - 1)).toNat, rfl, ?_, fun j hj => ?_, by rw [List.length_map]; exact hl, s8⟩)⟩
        · obtain ⟨z, hz, rfl⟩ := get_int hy
          refine ⟨Ext.set rfl, ?_⟩
          refine ⟨_, rfl, _, _, rfl, rfl, ⟨by decide, by decide⟩, _, rfl, aR, _, rfl, .inl (SqL.of (s8 _ _ hdR)), _, _, rfl, rfl, _, _, rfl, rfl, ?_, ?_⟩
          · show (0 : Int) < ((row.map V.int).length : Int) - 1
            rw [elen]; omega
          · have := h1 rfl H8 (Same.refl _)
            rw [elen]
            exact this
        · rw [hd, List.filter_eq_self.mpr (fun _ _ => rfl), map_int]
          unfold intsP
          rw [List.map_map (g := Int.ofNat)]
          refine congrArg (fun l => some (HO.lst (l.map V.int))) (List.map_congr_left fun z _ => ?_)
          have := Int.emod_nonneg (z / 7) (show (row.length : Int) - 1 ≠ 0 by omega)
          show z / 7 % ((row.length : Int) - 1) = ((z / 7 % ((row.length : Int) - 1)).toNat : Int)
          omega
        · obtain ⟨z, _, rfl⟩ := List.mem_map.mp hj
          have h0 := Int.emod_nonneg (z / 7) (show (row.length : Int) - 1 ≠ 0 by omega)
          have h1 := Int.emod_lt_of_pos (z / 7) (show (0 : Int) < (row.length : Int) - 1 by omega)
          omega
      · exact ⟨Nat.zero_le _, fun D hD => hk _ _ ⟨D, [], rfl, upd_same, fun j hj => absurd hj (by simp), Nat.zero_le _, Same.new hD⟩⟩
    rintro v H8 ⟨aP, js, rfl, hdP, hfP, hjl, s8⟩
    have hdR8 := s8 _ _ hdR
    have hP8 := hP7.same s8
    have hM8 := hM7.same s8
    -- the three lists of places
    refine ⟨_, rfl, _, rfl, _, rfl, _, rfl, _, rfl, aP, aP, _, _, rfl, rfl, hdP, hdP, by simp only [List.length_map, intsP_len]; omega, fun aQ haQ => ?_⟩
    rw [intsP_app]
    have s89 : Same H8 (upd H8 aQ (.lst ((intsP (js ++ js)).map V.int))) := Same.new haQ
    refine ⟨aR, row, .ref pl, ps, aQ, js ++ js, rfl, SqL.of (s89 _ _ hdR8), (hP8.same s89).en, SqL.of upd_same, by omega, by rw [List.length_append]; omega, fun j hj => (List.mem_append.mp hj).elim (hfP j) (hfP j), fun aK ks H10 hfk hkl haK hdK s10 => ?_⟩
    refine ⟨Nat.zero_le _, fun aE haE => ⟨by show 3 ≤ sizeLine; decide, fun aF haF => ⟨aF, rfl, ⟨_, SqL.of upd_same⟩, ?_⟩⟩⟩
    obtain ⟨H0, eH0⟩ : ∃ H0, H0 = upd (upd H10 aE (.lst [])) aF (.lst [.ref aP, .ref aK, .ref aE]) := ⟨_, rfl⟩
    have se : Same H10 (upd H10 aE (.lst [])) := Same.new haE
    have sf : Same (upd H10 aE (.lst [])) (upd (upd H10 aE (.lst [])) aF (.lst [.ref aP, .ref aK, .ref aE])) := Same.new haF
    have s100 : Same H10 H0 := by rw [eH0]; exact se.trans sf
    have s80 : Same H8 H0 := (s89.trans s10).trans s100
    have hF0 : H0 aF = some (.lst [.ref aP, .ref aK, .ref aE]) := by rw [eH0]; exact upd_same
    have hE0 : H0 aE = some (.lst ((intsP []).map V.int)) := by rw [eH0]; exact sf _ _ upd_same
    have hK0 := s100 _ _ hdK
    have hPl0 := s80 _ _ hdP
    have hR0 := s80 _ _ hdR8
    have hM0 := hM8.same s80
    have hP0 := hP8.same s80
    have hS0 := (((sH7.trans s8).trans s80)).seq hS
    rw [← eH0]
    have hrow : ∀ (i : Nat) (y : V), ([.ref aP, .ref aK, .ref aE] : List V)[i]? = some y → ∃ (ad : Addr) (j0 : List Nat), y = .ref ad ∧ H0 ad = some (.lst ((intsP j0).map V.int)) ∧ FitP row j0 ∧ j0.length ≤ 126 := fun i y hy => by
      match i, hy with
      | 0, hy => exact ⟨aP, js, (Option.some.inj hy).symm, hPl0, hfP, by omega⟩
      | 1, hy => exact ⟨aK, ks, (Option.some.inj hy).symm, hK0, hfk, by rw [List.length_append] at hkl; omega⟩
      | 2, hy => exact ⟨aE, [], (Option.some.inj hy).symm, hE0, fun j hj => absurd hj (by simp), by decide⟩
      | i + 3, hy => simp at hy
    refine for_list (K := K) (a := aF) (xs := [.ref aP, .ref aK, .ref aE]) (fun i σ H5 => Same H0 H5 ∧ ∃ v3 v7 v8 v9 v10 v11 v12 v13, σ = [some (.ref a), some (.int kinds), some (.ref pl), v3, some (.ref x), some (.ref aR), some (.ref aP), v7, v8, v9, v10, v11, v12, v13]) ⟨Same.refl _, _, _, _, _, _, _, _, _, rfl⟩ (fun i σ H5 _ ⟨e, _⟩ => SqL.of (e _ _ hF0)) ?_ ?_
    · rintro i y σ H5 hi ⟨s5', v3, v7, v8, v9, v10, v11, v12, v13, rfl⟩
      obtain ⟨ad, j0, rfl, had, hfit, hj0⟩ := hrow i y hi
      refine ⟨_, rfl, _, rfl, _, rfl, aR, row, .ref pl, ps, ad, j0, rfl, SqL.of (s5' _ _ hR0), (hP0.same s5').en, SqL.of (s5' _ _ had), by omega, by omega, hfit, fun i0 tW aD Hw hSt haD htW hdD sw => ⟨tW, _, rfl, SqT.of htW, rfl, _, _, rfl, _, _, rfl, rfl, ?_⟩⟩
      have s0w : Same H0 Hw := s5'.trans sw
      refine ⟨_, rfl, aR, _, rfl, .inl (SqL.of (s0w _ _ hR0)), fun h1 hh1 => ?_⟩
      have sa : Same Hw (upd Hw h1 (.lst (row.map V.int))) := Same.new hh1
      refine ⟨_, rfl, ad, _, rfl, .inl (SqL.of (sa _ _ (s0w _ _ had))), fun h2 hh2 => ⟨by show 2 ≤ sizeLine; decide, fun h3 hh3 => ?_⟩⟩
      have sb : Same _ (upd (upd Hw h1 (.lst (row.map V.int))) h2 (.lst ((intsP j0).map V.int))) := Same.new hh2
      have sc : Same _ (upd (upd (upd Hw h1 (.lst (row.map V.int))) h2 (.lst ((intsP j0).map V.int))) h3 (.lst [.ref h1, .ref h2])) := Same.new hh3
      obtain ⟨Hc, eHc⟩ : ∃ Hc, Hc = upd (upd (upd Hw h1 (.lst (row.map V.int))) h2 (.lst ((intsP j0).map V.int))) h3 (.lst [.ref h1, .ref h2]) := ⟨_, rfl⟩
      have swc : Same Hw Hc := by rw [eHc]; exact (sa.trans sb).trans sc
      have c1 : Hc h1 = some (.lst (row.map V.int)) := by rw [eHc]; exact sc _ _ (sb _ _ upd_same)
      have c2 : Hc h2 = some (.lst ((intsP j0).map V.int)) := by rw [eHc]; exact sc _ _ upd_same
      have c3 : Hc h3 = some (.lst [.ref h1, .ref h2]) := by rw [eHc]; exact upd_same
      have s0c : Same H0 Hc := s0w.trans swc
      rw [← eHc]
      have elj : (((intsP j0).map V.int).length : Int) = j0.length := by rw [List.length_map, intsP_len]
      dsimp only [tIfS, tOr]
      refine split_test (tt := tAnd _ _) (fun b Hd => b = false ∧ Same Hc Hd) (fun k hk => ?_) ?_
      · refine ⟨_, rfl, _, rfl, ad, _, rfl, .inl (SqL.of (s0c _ _ had)), _, _, rfl, rfl, _, rfl, ite2 (fun e => ?_) (fun e => ?_)⟩
        · have hlt : i0 < j0.length := by
            have := of_decide_eq_true e
            rw [elj] at this
            omega
          refine ⟨_, rfl, _, rfl, h3, _, _, _, rfl, rfl, SqL.of c3, atI_nat (j := 0) rfl, _, rfl, h3, _, _, _, rfl, rfl, SqL.of c3, atI_nat (j := 1) rfl, x, kinds, ps, h1, row, h2, j0, i0, rfl, hM0.same s0c, SqL.of c1, c2, by omega, hrb, hfit, hSt, hlt, fun Hd sd => ⟨_, rfl, rfl, _, rfl, hk _ _ ⟨by simp, sd⟩⟩⟩
        · exact hk _ _ ⟨rfl, Same.refl _⟩
      rintro b Hd ⟨rfl, scd⟩
      have s0d : Same H0 Hd := s0c.trans scd
      refine iteF ⟨_, rfl, _, rfl, _, rfl, by show 2 ≤ sizeLine; decide, fun h4 hh4 => ⟨[row, intsP j0], [row, intsP j0], false, ?_, ?_, by simp, _, rfl, iteF ?_⟩⟩
      · have s4' : Same Hd (upd Hd h4 (.lst [.ref aR, .ref ad])) := Same.new hh4
        exact enLL (s4' _ _ (scd _ _ c3)) (s4' _ _ (scd _ _ c1)) (s4' _ _ (scd _ _ c2))
      · have s4' : Same Hd (upd Hd h4 (.lst [.ref aR, .ref ad])) := Same.new hh4
        exact enLL upd_same (s4' _ _ (s0d _ _ hR0)) (s4' _ _ (s0d _ _ had))
      obtain ⟨H4', e4'⟩ : ∃ H4', H4' = upd Hd h4 (.lst [.ref aR, .ref ad]) := ⟨_, rfl⟩
      have s04 : Same H0 H4' := by rw [e4']; exact s0d.trans (Same.new hh4)
      have hdD4 : H4' aD = some (.lst ((rowAt row j0 i0).map V.int)) := by rw [e4']; exact (Same.new hh4) _ _ (scd _ _ (swc _ _ hdD))
      rw [← e4']
      -- the exchanges that can be done
      refine ⟨_, rfl, aR, _, rfl, .inl (SqL.of (s04 _ _ hR0)), fun g1 hg1 => ?_⟩
      have sa2 : Same H4' (upd H4' g1 (.lst (row.map V.int))) := Same.new hg1
      have hi0 := hSt.le
      have ecut : cutV ((intsP j0).map V.int) none (some (i0 : Int)) = (intsP (j0.take i0)).map V.int := by
        rw [cut_take (by rw [List.length_map, intsP_len]; exact hi0)]
        unfold intsP
        rw [List.map_take, List.map_take]
      refine ⟨_, rfl, _, rfl, _, rfl, ad, _, rfl, SqL.of (sa2 _ _ (s04 _ _ had)), fun g2 hg2 => ?_⟩
      rw [ecut]
      have sb2 : Same _ (upd (upd H4' g1 (.lst (row.map V.int))) g2 (.lst ((intsP (j0.take i0)).map V.int))) := Same.new hg2
      refine ⟨by show 2 ≤ sizeLine; decide, fun g3 hg3 => ?_⟩
      have sc2 : Same _ (upd (upd (upd H4' g1 (.lst (row.map V.int))) g2 (.lst ((intsP (j0.take i0)).map V.int))) g3 (.lst [.ref g1, .ref g2])) := Same.new hg3
      obtain ⟨Hg, eHg⟩ : ∃ Hg, Hg = upd (upd (upd H4' g1 (.lst (row.map V.int))) g2 (.lst ((intsP (j0.take i0)).map V.int))) g3 (.lst [.ref g1, .ref g2]) := ⟨_, rfl⟩
      have s4g : Same H4' Hg := by rw [eHg]; exact (sa2.trans sb2).trans sc2
      have k1 : Hg g1 = some (.lst (row.map V.int)) := by rw [eHg]; exact sc2 _ _ (sb2 _ _ upd_same)
      have k2 : Hg g2 = some (.lst ((intsP (j0.take i0)).map V.int)) := by rw [eHg]; exact sc2 _ _ upd_same
      have k3 : Hg g3 = some (.lst [.ref g1, .ref g2]) := by rw [eHg]; exact upd_same
      have s0g : Same H0 Hg := s04.trans s4g
      have hdDg := s4g _ _ hdD4
      have hcut := hSt.cut
      have elt : (j0.take i0).length = i0 := by rw [List.length_take, Nat.min_eq_left hi0]
      have eRow : rowAt row (j0.take i0) (j0.take i0).length = rowAt row j0 i0 := by rw [elt]; exact rowAt_take (Nat.le_refl _)
      have hfit2 : FitP row (j0.take i0) := fun j hj => hfit j (List.mem_of_mem_take hj)
      rw [← eHg]
      refine ⟨2, rfl, by decide, by decide, for_range (lo := 0) (n := 2) (fun i σ H7 => Same Hg H7 ∧ ∃ v10 v11 v12 v13, σ = [some (.ref a), some (.int kinds), some (.ref pl), some (.ref g3), some (.ref x), some (.ref aR), some (.ref aP), some (.ref ad), some (.ref aD), some (.int i0), v10, v11, v12, v13]) ⟨Same.refl _, _, _, _, _, rfl⟩ ?_ ?_⟩
      · rintro i2 σ H7' hi2 ⟨sg7, w10, w11, w12, w13, rfl⟩
        have s07 : Same H0 H7' := s0g.trans sg7
        refine ⟨_, rfl, _, rfl, g3, _, _, _, rfl, rfl, SqL.of (sg7 _ _ k3), atI_nat (j := 0) rfl, _, rfl, g3, _, _, _, rfl, rfl, SqL.of (sg7 _ _ k3), atI_nat (j := 1) rfl, x, kinds, ps, g1, row, g2, j0.take i0, rfl, hM0.same s07, SqL.of (sg7 _ _ k1), sg7 _ _ k2, by omega, hrb, hfit2, fun _ D8 H8' hD8 hd8 s8' => ?_, fun i' hSt' hlt' => absurd hlt' (by rw [hcut.uniq hSt']; exact Nat.lt_irrefl _)⟩
        rw [eRow] at hd8
        have sg8 := sg7.trans s8'
        have s08 := s0g.trans sg8
        refine ⟨_, rfl, _, "list", "list", true, rfl, .inl ⟨rfl, _, SqL.of hd8⟩, isi_list_list, _, rfl, iteF ?_⟩
        refine ⟨_, rfl, _, rfl, rowAt row j0 i0, rowAt row j0 i0, false, enL_ints (SqL.of hd8), enL_ints (SqL.of (sg8 _ _ hdDg)), by simp, _, rfl, iteF ?_⟩
        refine ⟨_, rfl, _, rfl, _, rfl, _, rfl, _, rfl, ad, _, rfl, SqL.of (s08 _ _ had), fun p1 hp1 => ?_⟩
        rw [ecut]
        have sp1 : Same H8' (upd H8' p1 (.lst ((intsP (j0.take i0)).map V.int))) := Same.new hp1
        refine ⟨by show 2 ≤ sizeLine; decide, fun p2 hp2 => ?_⟩
        have sp2 : Same _ (upd (upd H8' p1 (.lst ((intsP (j0.take i0)).map V.int))) p2 (.lst [.ref aR, .ref p1])) := Same.new hp2
        have sp := sp1.trans sp2
        refine ⟨[row, intsP (j0.take i0)], [row, intsP (j0.take i0)], false, enLL (sp _ _ (sg8 _ _ k3)) (sp _ _ (sg8 _ _ k1)) (sp _ _ (sg8 _ _ k2)), enLL upd_same (sp _ _ (s08 _ _ hR0)) (sp2 _ _ upd_same), by simp, _, rfl, iteF ?_⟩
        exact ⟨_, rfl, .inl ⟨rfl, _, SqL.of (sp _ _ hd8)⟩, D8, _, _, rfl, rfl, sp _ _ hd8, by rw [List.length_map, rowAt_len]; omega, Same.put (sg8.trans sp) (sg7.free hD8), _, _, _, _, rfl⟩
      · rintro σ H7' ⟨sg7, w10, w11, w12, w13, rfl⟩
        exact ⟨s0g.trans sg7, _, _, _, _, _, _, _, _, rfl⟩
    · rintro σ H5 ⟨s5', v3, v7, v8, v9, v10, v11, v12, v13, rfl⟩
      have htop := ok.top
      refine ⟨_, rfl, kinds, rfl, by omega, by omega, for_range (lo := 0) (n := kinds.toNat) (fun i σ H6 => Same H0 H6 ∧ ∃ v3 v7 v8 v9 v10 v11 v12 v13, σ = [some (.ref a), some (.int kinds), some (.ref pl), v3, some (.ref x), some (.ref aR), some (.ref aP), v7, v8, v9, v10, v11, v12, v13]) ⟨s5', _, _, _, _, _, _, _, _, rfl⟩ ?_ ?_⟩
      · rintro i σ H6' hi ⟨s06, w3, w7, w8, w9, w10, w11, w12, w13, rfl⟩
        refine ⟨_, rfl, kinds, rfl, by omega, by omega, for_range (lo := 0) (n := kinds.toNat) (fun i3 σ H7 => Same H0 H7 ∧ ∃ v3 v7 v8 v9 v10 v11 v13, σ = [some (.ref a), some (.int kinds), some (.ref pl), v3, some (.ref x), some (.ref aR), some (.ref aP), v7, v8, v9, v10, v11, some (.int (0 + (i : Int))), v13]) ⟨s06, _, _, _, _, _, _, _, rfl⟩ ?_ ?_⟩
        · rintro i3 σ H7' hi3 ⟨s07, u3, u7, u8, u9, u10, u11, u13, rfl⟩
          have hM7' := hM0.same s07
          obtain ⟨dx7, pd7, nd7, nk7, hm7, _⟩ := id hM7'.ex
          refine ⟨_, rfl, x, dx7, _, rfl, hm7, flds_no _ _ _ (by decide +kernel) (by decide +kernel) (by decide +kernel), _, rfl, _, rfl, x, kinds, ps, _, _, rfl, hM7', by omega, by omega, by omega, by omega, fun H8' s8' => ⟨_, rfl, _, rfl, _, rfl, .ref pl, ps, _, _, rfl, (hP0.same (s07.trans s8')).en, fun H9' s9' => ⟨rfl, _, rfl, ite2 (fun e => absurd e (by simp)) fun _ => ?_⟩⟩⟩
          have s09 : Same H0 H9' := (s07.trans s8').trans s9'
          refine ⟨_, rfl, _, rfl, _, rfl, .ref pl, ps, _, _, rfl, (hP0.same s09).en, fun Ha sa' => ⟨_, rfl, ?_⟩⟩
          have s0a := s09.trans sa'
          cases hmi : mind ps (0 + (i : Int)) (0 + (i3 : Int)) with
          | false => exact iteF ⟨s0a, _, _, _, _, _, _, _, rfl⟩
          | true =>
            refine iteT ⟨_, rfl, _, rfl, _, rfl, _, rfl, x, kinds, ps, aR, row, _, _, rfl, hM0.same s0a, by omega, by omega, by omega, by omega, hmi, SqL.of (s0a _ _ hR0), by omega, hrb, fun D1 Hb hD1 hd1 sb' => ?_⟩
            refine ⟨_, rfl, _, rfl, _, rfl, aR, row, _, _, rfl, SqL.of ((s0a.trans sb') _ _ hR0), by omega, fun D2 Hc' hD2 hd2 sc' => ?_⟩
            exact ⟨part row (0 + (i : Int)) (0 + (i3 : Int)), part row (0 + (i : Int)) (0 + (i3 : Int)), false, enL_ints (SqL.of (sc' _ _ hd1)), enL_ints (SqL.of hd2), by simp, _, rfl, iteF ⟨(s0a.trans sb').trans sc', _, _, _, _, _, _, _, rfl⟩⟩
        · rintro σ H7' ⟨s07, u3, u7, u8, u9, u10, u11, u13, rfl⟩
          exact ⟨s07, _, _, _, _, _, _, _, _, rfl⟩
      · rintro σ H6' ⟨s06, w3, w7, w8, w9, w10, w11, w12, w13, rfl⟩
        exact q _
end
end J
namespace J
open PySem L2
theorem all_mk {l : PySem.W.OpenLaw} {w : World} {K : PySem.W.Frag} {h : Heap} {mg : Str → Option Value} {fa C_Minds C_DeedError C_BadMinds C_BadRow C_BadPlaces C_Minding : Addr} (X : K.In h) (G : h.Ns mainGlobals mg) (hfa : mg "law" = some (.ref fa))
    {f1 : Addr} {od1 an1 : Option Addr} {sl1 : Array (Option Value)} {oc1 kV1 dc1 pm1 cd1 ct1 : Value}
    {f2 : Addr} {od2 an2 : Option Addr} {sl2 : Array (Option Value)} {oc2 kV2 dc2 pm2 cd2 ct2 : Value}
    {f3 : Addr} {od3 an3 : Option Addr} {sl3 : Array (Option Value)} {oc3 kV3 dc3 pm3 cd3 ct3 : Value}
    {f4 : Addr} {od4 an4 : Option Addr} {sl4 : Array (Option Value)} {oc4 kV4 dc4 pm4 cd4 ct4 : Value}
    {f5 : Addr} {od5 an5 : Option Addr} {sl5 : Array (Option Value)} {oc5 kV5 dc5 pm5 cd5 ct5 : Value}
    {f6 : Addr} {od6 an6 : Option Addr} {sl6 : Array (Option Value)} {oc6 kV6 dc6 pm6 cd6 ct6 : Value}
    {f7 : Addr} {od7 an7 : Option Addr} {sl7 : Array (Option Value)} {oc7 kV7 dc7 pm7 cd7 ct7 : Value}
    {f8 : Addr} {od8 an8 : Option Addr} {sl8 : Array (Option Value)} {oc8 kV8 dc8 pm8 cd8 ct8 : Value}
    {f9 : Addr} {od9 an9 : Option Addr} {sl9 : Array (Option Value)} {oc9 kV9 dc9 pm9 cd9 ct9 : Value}
    {f10 : Addr} {od10 an10 : Option Addr} {sl10 : Array (Option Value)} {oc10 kV10 dc10 pm10 cd10 ct10 : Value}
    {f11 : Addr} {od11 an11 : Option Addr} {sl11 : Array (Option Value)} {oc11 kV11 dc11 pm11 cd11 ct11 : Value}
    {f12 : Addr} {od12 an12 : Option Addr} {sl12 : Array (Option Value)} {oc12 kV12 dc12 pm12 cd12 ct12 : Value}
    {f13 : Addr} {od13 an13 : Option Addr} {sl13 : Array (Option Value)} {oc13 kV13 dc13 pm13 cd13 ct13 : Value}
    {f14 : Addr} {od14 an14 : Option Addr} {sl14 : Array (Option Value)} {oc14 kV14 dc14 pm14 cd14 ct14 : Value}
    {f15 : Addr} {od15 an15 : Option Addr} {sl15 : Array (Option Value)} {oc15 kV15 dc15 pm15 cd15 ct15 : Value}
    {f16 : Addr} {od16 an16 : Option Addr} {sl16 : Array (Option Value)} {oc16 kV16 dc16 pm16 cd16 ct16 : Value}
    {f17 : Addr} {od17 an17 : Option Addr} {sl17 : Array (Option Value)} {oc17 kV17 dc17 pm17 cd17 ct17 : Value}
    {f18 : Addr} {od18 an18 : Option Addr} {sl18 : Array (Option Value)} {oc18 kV18 dc18 pm18 cd18 ct18 : Value}
    {f19 : Addr} {od19 an19 : Option Addr} {sl19 : Array (Option Value)} {oc19 kV19 dc19 pm19 cd19 ct19 : Value}
    {f20 : Addr} {od20 an20 : Option Addr} {sl20 : Array (Option Value)} {oc20 kV20 dc20 pm20 cd20 ct20 : Value}
    {f21 : Addr} {od21 an21 : Option Addr} {sl21 : Array (Option Value)} {oc21 kV21 dc21 pm21 cd21 ct21 : Value}
    {f22 : Addr} {od22 an22 : Option Addr} {sl22 : Array (Option Value)} {oc22 kV22 dc22 pm22 cd22 ct22 : Value}
    {f23 : Addr} {od23 an23 : Option Addr} {sl23 : Array (Option Value)} {oc23 kV23 dc23 pm23 cd23 ct23 : Value}
    {f24 : Addr} {od24 an24 : Option Addr} {sl24 : Array (Option Value)} {oc24 kV24 dc24 pm24 cd24 ct24 : Value}
    {f25 : Addr} {od25 an25 : Option Addr} {sl25 : Array (Option Value)} {oc25 kV25 dc25 pm25 cd25 ct25 : Value}
    {f26 : Addr} {od26 an26 : Option Addr} {sl26 : Array (Option Value)} {oc26 kV26 dc26 pm26 cd26 ct26 : Value}
    {xnm xqn : Str} {xN : Addr} {xbs : List Value} {xsn : List Str} {xsub : List Value} {xab : Bool} {xcol : Option Bool} {xdd : Option Addr} {xk0 xk1 xk2 xk3 xk5 : Option Value} {yc : Value} {ydd : Option Addr} {ysl : Array (Option Value)} {y1 y5 : Str} {y2 y3 y8 : List Value} {yns : Addr} {y6 y9 y11 : Bool} {y7 : List Str} {y10 : Option Bool} {zc : Value} {zd : Option Addr} {zes : Array DictEntry} {zep : Nat} {zsl : Array (Option Value)}
    (aC_Minds : PySem.W.nsIn K mainGlobals "Minds" = some (some (.ref C_Minds)))
    (aC_DeedError : PySem.W.nsIn K mainGlobals "DeedError" = some (some (.ref C_DeedError)))
    (aC_BadMinds : PySem.W.nsIn K mainGlobals "BadMinds" = some (some (.ref C_BadMinds)))
    (aC_BadRow : PySem.W.nsIn K mainGlobals "BadRow" = some (some (.ref C_BadRow)))
    (aC_BadPlaces : PySem.W.nsIn K mainGlobals "BadPlaces" = some (some (.ref C_BadPlaces)))
    (aC_Minding : PySem.W.nsIn K mainGlobals "Minding" = some (some (.ref C_Minding)))
    (a1 : PySem.W.nsIn K mainGlobals "_law_minds" = some (some (.ref f1)))
    (l1 : K.lookup f1 = some ⟨oc1, od1, .func (PySem.W.fnOf "_law_minds" "_law_minds" (defArgs s_law_minds) (defBody s_law_minds) (defScope s_law_minds) .none kV1 dc1 pm1 an1 cd1 ct1), sl1⟩)
    (c1 : PySem.W.codeIn K cd1 "_law_minds" = true)
    (k1 : PySem.W.keepIn K (.ref f1) = true)
    (a2 : PySem.W.nsIn K mainGlobals "is_number" = some (some (.ref f2)))
    (l2 : K.lookup f2 = some ⟨oc2, od2, .func (PySem.W.fnOf "is_number" "is_number" (defArgs s_is_number) (defBody s_is_number) (defScope s_is_number) .none kV2 dc2 pm2 an2 cd2 ct2), sl2⟩)
    (c2 : PySem.W.codeIn K cd2 "is_number" = true)
    (k2 : PySem.W.keepIn K (.ref f2) = true)
    (a3 : PySem.W.nsIn K mainGlobals "check_kinds" = some (some (.ref f3)))
    (l3 : K.lookup f3 = some ⟨oc3, od3, .func (PySem.W.fnOf "check_kinds" "check_kinds" (defArgs s_check_kinds) (defBody s_check_kinds) (defScope s_check_kinds) .none kV3 dc3 pm3 an3 cd3 ct3), sl3⟩)
    (c3 : PySem.W.codeIn K cd3 "check_kinds" = true)
    (k3 : PySem.W.keepIn K (.ref f3) = true)
    (a4 : PySem.W.nsIn K mainGlobals "is_number_below" = some (some (.ref f4)))
    (l4 : K.lookup f4 = some ⟨oc4, od4, .func (PySem.W.fnOf "is_number_below" "is_number_below" (defArgs s_is_number_below) (defBody s_is_number_below) (defScope s_is_number_below) .none kV4 dc4 pm4 an4 cd4 ct4), sl4⟩)
    (c4 : PySem.W.codeIn K cd4 "is_number_below" = true)
    (k4 : PySem.W.keepIn K (.ref f4) = true)
    (a5 : PySem.W.nsIn K mainGlobals "is_pair" = some (some (.ref f5)))
    (l5 : K.lookup f5 = some ⟨oc5, od5, .func (PySem.W.fnOf "is_pair" "is_pair" (defArgs s_is_pair) (defBody s_is_pair) (defScope s_is_pair) .none kV5 dc5 pm5 an5 cd5 ct5), sl5⟩)
    (c5 : PySem.W.codeIn K cd5 "is_pair" = true)
    (k5 : PySem.W.keepIn K (.ref f5) = true)
    (a6 : PySem.W.nsIn K mainGlobals "check_pair" = some (some (.ref f6)))
    (l6 : K.lookup f6 = some ⟨oc6, od6, .func (PySem.W.fnOf "check_pair" "check_pair" (defArgs s_check_pair) (defBody s_check_pair) (defScope s_check_pair) .none kV6 dc6 pm6 an6 cd6 ct6), sl6⟩)
    (c6 : PySem.W.codeIn K cd6 "check_pair" = true)
    (k6 : PySem.W.keepIn K (.ref f6) = true)
    (a7 : PySem.W.nsIn K mainGlobals "pairs_kept" = some (some (.ref f7)))
    (l7 : K.lookup f7 = some ⟨oc7, od7, .func (PySem.W.fnOf "pairs_kept" "pairs_kept" (defArgs s_pairs_kept) (defBody s_pairs_kept) (defScope s_pairs_kept) .none kV7 dc7 pm7 an7 cd7 ct7), sl7⟩)
    (c7 : PySem.W.codeIn K cd7 "pairs_kept" = true)
    (k7 : PySem.W.keepIn K (.ref f7) = true)
    (a8 : PySem.W.nsIn K mainGlobals "kinds_nearby" = some (some (.ref f8)))
    (l8 : K.lookup f8 = some ⟨oc8, od8, .func (PySem.W.fnOf "kinds_nearby" "kinds_nearby" (defArgs s_kinds_nearby) (defBody s_kinds_nearby) (defScope s_kinds_nearby) .none kV8 dc8 pm8 an8 cd8 ct8), sl8⟩)
    (c8 : PySem.W.codeIn K cd8 "kinds_nearby" = true)
    (k8 : PySem.W.keepIn K (.ref f8) = true)
    (a9 : PySem.W.findIn K (.ref C_Minds) "__init__" = some (some (.ref f9)))
    (i9 : PySem.W.isFn K (.ref f9) = true)
    (l9 : K.lookup f9 = some ⟨oc9, od9, .func (PySem.W.fnOf "__init__" "Minds.__init__" (defArgs s_Minds_init) (defBody s_Minds_init) (defScope s_Minds_init) .none kV9 dc9 pm9 an9 cd9 ct9), sl9⟩)
    (c9 : PySem.W.codeIn K cd9 "Minds.__init__" = true)
    (k9 : PySem.W.keepIn K (.ref f9) = true)
    (a10 : PySem.W.findIn K (.ref C_Minds) "pairs" = some (some (.ref f10)))
    (i10 : PySem.W.isFn K (.ref f10) = true)
    (l10 : K.lookup f10 = some ⟨oc10, od10, .func (PySem.W.fnOf "pairs" "Minds.pairs" (defArgs s_Minds_pairs) (defBody s_Minds_pairs) (defScope s_Minds_pairs) .none kV10 dc10 pm10 an10 cd10 ct10), sl10⟩)
    (c10 : PySem.W.codeIn K cd10 "Minds.pairs" = true)
    (k10 : PySem.W.keepIn K (.ref f10) = true)
    (a11 : PySem.W.nsIn K mainGlobals "check_kind" = some (some (.ref f11)))
    (l11 : K.lookup f11 = some ⟨oc11, od11, .func (PySem.W.fnOf "check_kind" "check_kind" (defArgs s_check_kind) (defBody s_check_kind) (defScope s_check_kind) .none kV11 dc11 pm11 an11 cd11 ct11), sl11⟩)
    (c11 : PySem.W.codeIn K cd11 "check_kind" = true)
    (k11 : PySem.W.keepIn K (.ref f11) = true)
    (a12 : PySem.W.findIn K (.ref C_Minds) "mind" = some (some (.ref f12)))
    (i12 : PySem.W.isFn K (.ref f12) = true)
    (l12 : K.lookup f12 = some ⟨oc12, od12, .func (PySem.W.fnOf "mind" "Minds.mind" (defArgs s_Minds_mind) (defBody s_Minds_mind) (defScope s_Minds_mind) .none kV12 dc12 pm12 an12 cd12 ct12), sl12⟩)
    (c12 : PySem.W.codeIn K cd12 "Minds.mind" = true)
    (k12 : PySem.W.keepIn K (.ref f12) = true)
    (a13 : PySem.W.nsIn K mainGlobals "_law_row" = some (some (.ref f13)))
    (l13 : K.lookup f13 = some ⟨oc13, od13, .func (PySem.W.fnOf "_law_row" "_law_row" (defArgs s_law_row) (defBody s_law_row) (defScope s_law_row) .none kV13 dc13 pm13 an13 cd13 ct13), sl13⟩)
    (c13 : PySem.W.codeIn K cd13 "_law_row" = true)
    (k13 : PySem.W.keepIn K (.ref f13) = true)
    (a14 : PySem.W.nsIn K mainGlobals "_law_mind" = some (some (.ref f14)))
    (l14 : K.lookup f14 = some ⟨oc14, od14, .func (PySem.W.fnOf "_law_mind" "_law_mind" (defArgs s_law_mind) (defBody s_law_mind) (defScope s_law_mind) .none kV14 dc14 pm14 an14 cd14 ct14), sl14⟩)
    (c14 : PySem.W.codeIn K cd14 "_law_mind" = true)
    (k14 : PySem.W.keepIn K (.ref f14) = true)
    (a15 : PySem.W.nsIn K mainGlobals "_law_kept" = some (some (.ref f15)))
    (l15 : K.lookup f15 = some ⟨oc15, od15, .func (PySem.W.fnOf "_law_kept" "_law_kept" (defArgs s_law_kept) (defBody s_law_kept) (defScope s_law_kept) .none kV15 dc15 pm15 an15 cd15 ct15), sl15⟩)
    (c15 : PySem.W.codeIn K cd15 "_law_kept" = true)
    (k15 : PySem.W.keepIn K (.ref f15) = true)
    (a16 : PySem.W.nsIn K mainGlobals "_law_walked" = some (some (.ref f16)))
    (l16 : K.lookup f16 = some ⟨oc16, od16, .func (PySem.W.fnOf "_law_walked" "_law_walked" (defArgs s_law_walked) (defBody s_law_walked) (defScope s_law_walked) .none kV16 dc16 pm16 an16 cd16 ct16), sl16⟩)
    (c16 : PySem.W.codeIn K cd16 "_law_walked" = true)
    (k16 : PySem.W.keepIn K (.ref f16) = true)
    (a17 : PySem.W.nsIn K mainGlobals "is_list_below" = some (some (.ref f17)))
    (l17 : K.lookup f17 = some ⟨oc17, od17, .func (PySem.W.fnOf "is_list_below" "is_list_below" (defArgs s_is_list_below) (defBody s_is_list_below) (defScope s_is_list_below) .none kV17 dc17 pm17 an17 cd17 ct17), sl17⟩)
    (c17 : PySem.W.codeIn K cd17 "is_list_below" = true)
    (k17 : PySem.W.keepIn K (.ref f17) = true)
    (a18 : PySem.W.nsIn K mainGlobals "is_row" = some (some (.ref f18)))
    (l18 : K.lookup f18 = some ⟨oc18, od18, .func (PySem.W.fnOf "is_row" "is_row" (defArgs s_is_row) (defBody s_is_row) (defScope s_is_row) .none kV18 dc18 pm18 an18 cd18 ct18), sl18⟩)
    (c18 : PySem.W.codeIn K cd18 "is_row" = true)
    (k18 : PySem.W.keepIn K (.ref f18) = true)
    (a19 : PySem.W.nsIn K mainGlobals "check_row" = some (some (.ref f19)))
    (l19 : K.lookup f19 = some ⟨oc19, od19, .func (PySem.W.fnOf "check_row" "check_row" (defArgs s_check_row) (defBody s_check_row) (defScope s_check_row) .none kV19 dc19 pm19 an19 cd19 ct19), sl19⟩)
    (c19 : PySem.W.codeIn K cd19 "check_row" = true)
    (k19 : PySem.W.keepIn K (.ref f19) = true)
    (a20 : PySem.W.nsIn K mainGlobals "check_places" = some (some (.ref f20)))
    (l20 : K.lookup f20 = some ⟨oc20, od20, .func (PySem.W.fnOf "check_places" "check_places" (defArgs s_check_places) (defBody s_check_places) (defScope s_check_places) .none kV20 dc20 pm20 an20 cd20 ct20), sl20⟩)
    (c20 : PySem.W.codeIn K cd20 "check_places" = true)
    (k20 : PySem.W.keepIn K (.ref f20) = true)
    (a21 : PySem.W.findIn K (.ref C_Minding) "__init__" = some (some (.ref f21)))
    (i21 : PySem.W.isFn K (.ref f21) = true)
    (l21 : K.lookup f21 = some ⟨oc21, od21, .func (PySem.W.fnOf "__init__" "Minding.__init__" (defArgs s_Minding_init) (defBody s_Minding_init) (defScope s_Minding_init) .none kV21 dc21 pm21 an21 cd21 ct21), sl21⟩)
    (c21 : PySem.W.codeIn K cd21 "Minding.__init__" = true)
    (k21 : PySem.W.keepIn K (.ref f21) = true)
    (a22 : PySem.W.nsIn K mainGlobals "exchanged" = some (some (.ref f22)))
    (l22 : K.lookup f22 = some ⟨oc22, od22, .func (PySem.W.fnOf "exchanged" "exchanged" (defArgs s_exchanged) (defBody s_exchanged) (defScope s_exchanged) .none kV22 dc22 pm22 an22 cd22 ct22), sl22⟩)
    (c22 : PySem.W.codeIn K cd22 "exchanged" = true)
    (k22 : PySem.W.keepIn K (.ref f22) = true)
    (a23 : PySem.W.nsIn K mainGlobals "_law_at" = some (some (.ref f23)))
    (l23 : K.lookup f23 = some ⟨oc23, od23, .func (PySem.W.fnOf "_law_at" "_law_at" (defArgs s_law_at) (defBody s_law_at) (defScope s_law_at) .none kV23 dc23 pm23 an23 cd23 ct23), sl23⟩)
    (c23 : PySem.W.codeIn K cd23 "_law_at" = true)
    (k23 : PySem.W.keepIn K (.ref f23) = true)
    (a24 : PySem.W.nsIn K mainGlobals "had" = some (some (.ref f24)))
    (l24 : K.lookup f24 = some ⟨oc24, od24, .func (PySem.W.fnOf "had" "had" (defArgs s_had) (defBody s_had) (defScope s_had) .none kV24 dc24 pm24 an24 cd24 ct24), sl24⟩)
    (c24 : PySem.W.codeIn K cd24 "had" = true)
    (k24 : PySem.W.keepIn K (.ref f24) = true)
    (a25 : PySem.W.nsIn K mainGlobals "_law_part" = some (some (.ref f25)))
    (l25 : K.lookup f25 = some ⟨oc25, od25, .func (PySem.W.fnOf "_law_part" "_law_part" (defArgs s_law_part) (defBody s_law_part) (defScope s_law_part) .none kV25 dc25 pm25 an25 cd25 ct25), sl25⟩)
    (c25 : PySem.W.codeIn K cd25 "_law_part" = true)
    (k25 : PySem.W.keepIn K (.ref f25) = true)
    (a26 : PySem.W.nsIn K mainGlobals "law" = some (some (.ref f26)))
    (l26 : K.lookup f26 = some ⟨oc26, od26, .func (PySem.W.fnOf "law" "law" (defArgs s_law) (defBody s_law) (defScope s_law) .none kV26 dc26 pm26 an26 cd26 ct26), sl26⟩)
    (c26 : PySem.W.codeIn K cd26 "law" = true)
    (k26 : PySem.W.keepIn K (.ref f26) = true)
    (pg_Minds : PySem.W.plainGet K C_Minds Str.empty = true)
    (hd_Minds : PySem.W.hasDictIn K C_Minds = true)
    (po_Minds : PySem.W.plainOver K C_Minds = true)
    (sa_Minds : PySem.W.findIn K (.ref C_Minds) "__setattr__" = some (some (.builtin "object.__setattr__")))
    (mk_Minds : PySem.W.makesIn K C_Minds = true)
    (kc_Minds : PySem.W.keepIn K (.ref C_Minds) = true)
    (n_Minds_kinds : PySem.W.findIn K (.ref C_Minds) "kinds" = some none)
    (n_Minds_paired : PySem.W.findIn K (.ref C_Minds) "paired" = some none)
    (n_Minds_nearby : PySem.W.findIn K (.ref C_Minds) "nearby" = some none)
    (xc : K.lookup C_Minding = some (excClassObj xnm xqn C_Minding xN xbs (.ref C_DeedError :: bmVE) true xsn xsub xab xcol xdd xk0 xk1 xk2 xk3 xk5 "ValueError.__new__"))
    (xd : K.lookup C_DeedError = some ⟨yc, ydd, .cls ⟨y1, y2, y3, yns, y5, y6, y7, y8, y9, y10, y11⟩, ysl⟩)
    (xn : K.lookup yns = some ⟨zc, zd, .dict zes zep, zsl⟩)
    (xs : zes.toList.all strKey = true)
    (xf : nsFind zes "__init__" = none)
    (xga : PySem.W.findIn K (.ref C_Minding) "__getattribute__" = some (some (.builtin "BaseException.__getattribute__")))
    (xgh : PySem.W.findIn K (.ref C_Minding) "__getattr__" = some (none))
    (xsa : PySem.W.findIn K (.ref C_Minding) "__setattr__" = some (some (.builtin "object.__setattr__")))
    (xha : PySem.W.findIn K (.ref C_Minding) "__class__" = some (some (.builtin "object.__class__")))
    (xat : PySem.W.findIn K (.ref C_Minding) "at" = some (none))
    (kn : PySem.W.specialIn K (.builtin "object.__class__") "__get__" = some (some (.builtin "getset_descriptor.__get__")))
    (kt : PySem.W.takesIn K (.builtin "object.__class__") = some true)
    (xkp : PySem.W.keepIn K (.ref C_Minding) = true)
    (kc1_DeedError : PySem.W.isClsIn K C_DeedError = true)
    (kc2_DeedError : PySem.W.typeIn K (.ref C_DeedError) = some (.type "type"))
    (ki_DeedError : PySem.W.subIn K (.ref C_Minding) (.ref C_DeedError) = some true)
    (kc1_BadMinds : PySem.W.isClsIn K C_BadMinds = true)
    (kc2_BadMinds : PySem.W.typeIn K (.ref C_BadMinds) = some (.type "type"))
    (ki_BadMinds : PySem.W.subIn K (.ref C_Minding) (.ref C_BadMinds) = some false)
    (ne_BadMinds : Nat.beq C_Minding C_BadMinds = false)
    (kc1_BadRow : PySem.W.isClsIn K C_BadRow = true)
    (kc2_BadRow : PySem.W.typeIn K (.ref C_BadRow) = some (.type "type"))
    (ki_BadRow : PySem.W.subIn K (.ref C_Minding) (.ref C_BadRow) = some false)
    (ne_BadRow : Nat.beq C_Minding C_BadRow = false)
    (kc1_BadPlaces : PySem.W.isClsIn K C_BadPlaces = true)
    (kc2_BadPlaces : PySem.W.typeIn K (.ref C_BadPlaces) = some (.type "type"))
    (ki_BadPlaces : PySem.W.subIn K (.ref C_Minding) (.ref C_BadPlaces) = some false)
    (ne_BadPlaces : Nat.beq C_Minding C_BadPlaces = false)
    (kc1_Minding : PySem.W.isClsIn K C_Minding = true)
    (kc2_Minding : PySem.W.typeIn K (.ref C_Minding) = some (.type "type"))
    (ki_Minding : PySem.W.subIn K (.ref C_Minding) (.ref C_Minding) = some true)
    (xbe : PySem.W.subIn K (.ref C_DeedError) (.type "BaseException") = some true)
    (xrd : PySem.W.readsIn K C_DeedError (.type "type") = true)
    (xsp : PySem.W.specialIn K (.ref C_DeedError) "__getattribute__" = some (some (.builtin "type.__getattribute__")))
    (xfc : PySem.W.findCls K (.ref C_DeedError) (.type "type") "__init__" = some (.val (.builtin "ValueError.__init__")))
    (z_min : PySem.W.nsIn K mainGlobals "min" = some none)
    (z_max : PySem.W.nsIn K mainGlobals "max" = some none)
    (z_len : PySem.W.nsIn K mainGlobals "len" = some none)
    (z_sum : PySem.W.nsIn K mainGlobals "sum" = some none)
    (z_range : PySem.W.nsIn K mainGlobals "range" = some none)
    (z_sorted : PySem.W.nsIn K mainGlobals "sorted" = some none)
    (z_set : PySem.W.nsIn K mainGlobals "set" = some none)
    (z_list : PySem.W.nsIn K mainGlobals "list" = some none)
    (z_dict : PySem.W.nsIn K mainGlobals "dict" = some none)
    (z_isinstance : PySem.W.nsIn K mainGlobals "isinstance" = some none)
    (z_int : PySem.W.nsIn K mainGlobals "int" = some none)
    (z_bool : PySem.W.nsIn K mainGlobals "bool" = some none)
    (z_tuple : PySem.W.nsIn K mainGlobals "tuple" = some none)
    (z_enumerate : PySem.W.nsIn K mainGlobals "enumerate" = some none)
    (z_any : PySem.W.nsIn K mainGlobals "any" = some none)
    (z_all : PySem.W.nsIn K mainGlobals "all" = some none)
    (z_reversed : PySem.W.nsIn K mainGlobals "reversed" = some none)
    (z_zip : PySem.W.nsIn K mainGlobals "zip" = some none) :
    ∃ fd : FuncData, (∀ (s : Shared) (v : Value), BindsTo s fd ⟨[v], []⟩ [("_law_script", v)]) ∧ ∀ base : Heap, K.In base → base.Ns mainGlobals mg → FnOk l.prog w K mg base CX0 8 fa fd ["_law_script"] (spLaw K) := by
  have e := hfa.symm.trans (PySem.W.mg_of X G a26)
  cases e
  have T0 : Txt K mg C_Minds := ⟨⟨PySem.W.mg_none_of X G z_min, PySem.W.mg_none_of X G z_max, PySem.W.mg_none_of X G z_len, PySem.W.mg_none_of X G z_sum, PySem.W.mg_none_of X G z_range, PySem.W.mg_none_of X G z_sorted, PySem.W.mg_none_of X G z_set, PySem.W.mg_none_of X G z_list, PySem.W.mg_none_of X G z_dict, PySem.W.mg_none_of X G z_isinstance, PySem.W.mg_none_of X G z_int, PySem.W.mg_none_of X G z_bool, PySem.W.mg_none_of X G z_tuple, PySem.W.mg_none_of X G z_enumerate, PySem.W.mg_none_of X G z_any, PySem.W.mg_none_of X G z_all, PySem.W.mg_none_of X G z_reversed, PySem.W.mg_none_of X G z_zip⟩, ⟨pg_Minds, hd_Minds, po_Minds, sa_Minds⟩, n_Minds_kinds, n_Minds_paired, n_Minds_nearby⟩
  have XC : XCls K C_Minding C_DeedError := ⟨⟨_, _, _, _, _, _, _, _, _, _, _, _, _, _, xc⟩, ⟨_, _, _, _, _, _, _, xd, xn, rfl, strKeys_of xs, xf⟩, xga, xgh, xsa⟩
  have TE : TxtE K mg C_Minds ⟨C_DeedError, C_BadMinds, C_BadRow, C_BadPlaces, C_Minding⟩ := { toTxt := T0, m_DeedError := PySem.W.mg_of X G aC_DeedError, m_BadMinds := PySem.W.mg_of X G aC_BadMinds, m_BadRow := PySem.W.mg_of X G aC_BadRow, m_BadPlaces := PySem.W.mg_of X G aC_BadPlaces, m_Minding := PySem.W.mg_of X G aC_Minding, kin := ⟨XC, xha, kn, kt⟩, nAt := xat, kM := kit_of kc1_Minding kc2_Minding ki_Minding (.inl rfl), k1 := kit_of kc1_BadMinds kc2_BadMinds ki_BadMinds (.inr ne_BadMinds), k2 := kit_of kc1_BadPlaces kc2_BadPlaces ki_BadPlaces (.inr ne_BadPlaces), k3 := kit_of kc1_BadRow kc2_BadRow ki_BadRow (.inr ne_BadRow), exm := exm_of xbe kc1_DeedError kc2_DeedError ki_DeedError, rd := xrd, sp := xsp, fc := xfc }
  have F1 := fun_mk (st := s_law_minds) l1 c1 k1
  have b1 := F1.binds (ps := ["_law_script"]) fun _ _ _ _ _ _ us hl => match us, hl with | [_], _ => rfl
  have D_law_minds : Def K mg "_law_minds" s_law_minds ["_law_script"] := ⟨_, _, F1, PySem.W.mg_of X G a1, b1⟩
  have F2 := fun_mk (st := s_is_number) l2 c2 k2
  have b2 := F2.binds (ps := ["value"]) fun _ _ _ _ _ _ us hl => match us, hl with | [_], _ => rfl
  have D_is_number : Def K mg "is_number" s_is_number ["value"] := ⟨_, _, F2, PySem.W.mg_of X G a2, b2⟩
  have F3 := fun_mk (st := s_check_kinds) l3 c3 k3
  have b3 := F3.binds (ps := ["kinds"]) fun _ _ _ _ _ _ us hl => match us, hl with | [_], _ => rfl
  have D_check_kinds : Def K mg "check_kinds" s_check_kinds ["kinds"] := ⟨_, _, F3, PySem.W.mg_of X G a3, b3⟩
  have F4 := fun_mk (st := s_is_number_below) l4 c4 k4
  have b4 := F4.binds (ps := ["value", "bound"]) fun _ _ _ _ _ _ us hl => match us, hl with | [_, _], _ => rfl
  have D_is_number_below : Def K mg "is_number_below" s_is_number_below ["value", "bound"] := ⟨_, _, F4, PySem.W.mg_of X G a4, b4⟩
  have F5 := fun_mk (st := s_is_pair) l5 c5 k5
  have b5 := F5.binds (ps := ["value", "kinds"]) fun _ _ _ _ _ _ us hl => match us, hl with | [_, _], _ => rfl
  have D_is_pair : Def K mg "is_pair" s_is_pair ["value", "kinds"] := ⟨_, _, F5, PySem.W.mg_of X G a5, b5⟩
  have F6 := fun_mk (st := s_check_pair) l6 c6 k6
  have b6 := F6.binds (ps := ["pair", "kinds"]) fun _ _ _ _ _ _ us hl => match us, hl with | [_, _], _ => rfl
  have D_check_pair : Def K mg "check_pair" s_check_pair ["pair", "kinds"] := ⟨_, _, F6, PySem.W.mg_of X G a6, b6⟩
  have F7 := fun_mk (st := s_pairs_kept) l7 c7 k7
  have b7 := F7.binds (ps := ["kinds", "pairs"]) fun _ _ _ _ _ _ us hl => match us, hl with | [_, _], _ => rfl
  have D_pairs_kept : Def K mg "pairs_kept" s_pairs_kept ["kinds", "pairs"] := ⟨_, _, F7, PySem.W.mg_of X G a7, b7⟩
  have F8 := fun_mk (st := s_kinds_nearby) l8 c8 k8
  have b8 := F8.binds (ps := ["paired"]) fun _ _ _ _ _ _ us hl => match us, hl with | [_], _ => rfl
  have D_kinds_nearby : Def K mg "kinds_nearby" s_kinds_nearby ["paired"] := ⟨_, _, F8, PySem.W.mg_of X G a8, b8⟩
  have F9 := fun_mk (st := s_Minds_init) l9 c9 k9
  have b9 := F9.binds (ps := ["self", "kinds", "pairs"]) fun _ _ _ _ _ _ us hl => match us, hl with | [_, _, _], _ => rfl
  have D_Minds : DefC K mg C_Minds "Minds" "Minds.__init__" s_Minds_init ["self", "kinds", "pairs"] := ⟨_, _, F9, ⟨mk_Minds, a9, i9, kc_Minds⟩, PySem.W.mg_of X G aC_Minds, b9⟩
  have F10 := fun_mk (st := s_Minds_pairs) l10 c10 k10
  have b10 := F10.binds (ps := ["self"]) fun _ _ _ _ _ _ us hl => match us, hl with | [_], _ => rfl
  have D_Minds_pairs : DefM K C_Minds "pairs" "Minds.pairs" s_Minds_pairs ["self"] := ⟨_, _, F10, ⟨a10, i10, k10⟩, b10⟩
  have F11 := fun_mk (st := s_check_kind) l11 c11 k11
  have b11 := F11.binds (ps := ["minds", "kind"]) fun _ _ _ _ _ _ us hl => match us, hl with | [_, _], _ => rfl
  have D_check_kind : Def K mg "check_kind" s_check_kind ["minds", "kind"] := ⟨_, _, F11, PySem.W.mg_of X G a11, b11⟩
  have F12 := fun_mk (st := s_Minds_mind) l12 c12 k12
  have b12 := F12.binds (ps := ["self", "one", "other"]) fun _ _ _ _ _ _ us hl => match us, hl with | [_, _, _], _ => rfl
  have D_Minds_mind : DefM K C_Minds "mind" "Minds.mind" s_Minds_mind ["self", "one", "other"] := ⟨_, _, F12, ⟨a12, i12, k12⟩, b12⟩
  have F13 := fun_mk (st := s_law_row) l13 c13 k13
  have b13 := F13.binds (ps := ["_law_script", "_law_kinds", "_law_by"]) fun _ _ _ _ _ _ us hl => match us, hl with | [_, _, _], _ => rfl
  have D_law_row : Def K mg "_law_row" s_law_row ["_law_script", "_law_kinds", "_law_by"] := ⟨_, _, F13, PySem.W.mg_of X G a13, b13⟩
  have F14 := fun_mk (st := s_law_mind) l14 c14 k14
  have b14 := F14.binds (ps := ["_law_pairs", "_law_one", "_law_other"]) fun _ _ _ _ _ _ us hl => match us, hl with | [_, _, _], _ => rfl
  have D_law_mind : Def K mg "_law_mind" s_law_mind ["_law_pairs", "_law_one", "_law_other"] := ⟨_, _, F14, PySem.W.mg_of X G a14, b14⟩
  have F15 := fun_mk (st := s_law_kept) l15 c15 k15
  have b15 := F15.binds (ps := ["_law_row_here", "_law_pairs", "_law_places"]) fun _ _ _ _ _ _ us hl => match us, hl with | [_, _, _], _ => rfl
  have D_law_kept : Def K mg "_law_kept" s_law_kept ["_law_row_here", "_law_pairs", "_law_places"] := ⟨_, _, F15, PySem.W.mg_of X G a15, b15⟩
  have F16 := fun_mk (st := s_law_walked) l16 c16 k16
  have b16 := F16.binds (ps := ["_law_row_here", "_law_pairs", "_law_places"]) fun _ _ _ _ _ _ us hl => match us, hl with | [_, _, _], _ => rfl
  have D_law_walked : Def K mg "_law_walked" s_law_walked ["_law_row_here", "_law_pairs", "_law_places"] := ⟨_, _, F16, PySem.W.mg_of X G a16, b16⟩
  have F17 := fun_mk (st := s_is_list_below) l17 c17 k17
  have b17 := F17.binds (ps := ["values", "bound"]) fun _ _ _ _ _ _ us hl => match us, hl with | [_, _], _ => rfl
  have D_is_list_below : Def K mg "is_list_below" s_is_list_below ["values", "bound"] := ⟨_, _, F17, PySem.W.mg_of X G a17, b17⟩
  have F18 := fun_mk (st := s_is_row) l18 c18 k18
  have b18 := F18.binds (ps := ["minds", "value"]) fun _ _ _ _ _ _ us hl => match us, hl with | [_, _], _ => rfl
  have D_is_row : Def K mg "is_row" s_is_row ["minds", "value"] := ⟨_, _, F18, PySem.W.mg_of X G a18, b18⟩
  have F19 := fun_mk (st := s_check_row) l19 c19 k19
  have b19 := F19.binds (ps := ["minds", "row"]) fun _ _ _ _ _ _ us hl => match us, hl with | [_, _], _ => rfl
  have D_check_row : Def K mg "check_row" s_check_row ["minds", "row"] := ⟨_, _, F19, PySem.W.mg_of X G a19, b19⟩
  have F20 := fun_mk (st := s_check_places) l20 c20 k20
  have b20 := F20.binds (ps := ["row", "places"]) fun _ _ _ _ _ _ us hl => match us, hl with | [_, _], _ => rfl
  have D_check_places : Def K mg "check_places" s_check_places ["row", "places"] := ⟨_, _, F20, PySem.W.mg_of X G a20, b20⟩
  have F21 := fun_mk (st := s_Minding_init) l21 c21 k21
  have b21 := F21.binds (ps := ["self", "at"]) fun _ _ _ _ _ _ us hl => match us, hl with | [_, _], _ => rfl
  have R_Minding := b21
  have F22 := fun_mk (st := s_exchanged) l22 c22 k22
  have b22 := F22.binds (ps := ["minds", "row", "places"]) fun _ _ _ _ _ _ us hl => match us, hl with | [_, _, _], _ => rfl
  have D_exchanged : Def K mg "exchanged" s_exchanged ["minds", "row", "places"] := ⟨_, _, F22, PySem.W.mg_of X G a22, b22⟩
  have F23 := fun_mk (st := s_law_at) l23 c23 k23
  have b23 := F23.binds (ps := ["_law_minds_here", "_law_row_here", "_law_places"]) fun _ _ _ _ _ _ us hl => match us, hl with | [_, _, _], _ => rfl
  have D_law_at : Def K mg "_law_at" s_law_at ["_law_minds_here", "_law_row_here", "_law_places"] := ⟨_, _, F23, PySem.W.mg_of X G a23, b23⟩
  have F24 := fun_mk (st := s_had) l24 c24 k24
  have b24 := F24.binds (ps := ["minds", "row", "one", "other"]) fun _ _ _ _ _ _ us hl => match us, hl with | [_, _, _, _], _ => rfl
  have D_had : Def K mg "had" s_had ["minds", "row", "one", "other"] := ⟨_, _, F24, PySem.W.mg_of X G a24, b24⟩
  have F25 := fun_mk (st := s_law_part) l25 c25 k25
  have b25 := F25.binds (ps := ["_law_row_here", "_law_one", "_law_other"]) fun _ _ _ _ _ _ us hl => match us, hl with | [_, _, _], _ => rfl
  have D_law_part : Def K mg "_law_part" s_law_part ["_law_row_here", "_law_one", "_law_other"] := ⟨_, _, F25, PySem.W.mg_of X G a25, b25⟩
  have F26 := fun_mk (st := s_law) l26 c26 k26
  refine ⟨PySem.W.fnOf "law" "law" (defArgs s_law) (defBody s_law) (defScope s_law) .none kV26 dc26 pm26 an26 cd26 ct26, fun s v => .of_eq rfl, fun base _ _ => ?_⟩
  have O_law_minds := ok_law_minds (P := l.prog) (w := w) (base := base) D_law_minds T0.toBlt
  have O_is_number := ok_is_number (P := l.prog) (w := w) (base := base) D_is_number T0.toBlt
  have O_check_kinds := ok_check_kinds (P := l.prog) (w := w) (base := base) D_check_kinds O_is_number
  have O_is_number_below := ok_is_number_below (P := l.prog) (w := w) (base := base) D_is_number_below O_is_number
  have O_is_pair := ok_is_pair (P := l.prog) (w := w) (base := base) D_is_pair T0.toBlt O_is_number_below
  have O_check_pair := ok_check_pair (P := l.prog) (w := w) (base := base) D_check_pair O_is_pair
  have O_pairs_kept := ok_pairs_kept (P := l.prog) (w := w) (base := base) D_pairs_kept T0.toBlt O_check_pair
  have O_kinds_nearby := ok_kinds_nearby (P := l.prog) (w := w) (base := base) D_kinds_nearby 
  have O_Minds := ok_Minds (P := l.prog) (w := w) (base := base) D_Minds T0 O_check_kinds O_pairs_kept O_kinds_nearby
  have O_Minds_pairs := ok_Minds_pairs (P := l.prog) (w := w) (base := base) D_Minds_pairs T0
  have O_check_kind := ok_check_kind (P := l.prog) (w := w) (base := base) D_check_kind T0 O_is_number_below
  have O_Minds_mind := ok_Minds_mind (P := l.prog) (w := w) (base := base) D_Minds_mind T0 O_check_kind
  have O_law_row := ok_law_row (P := l.prog) (w := w) (base := base) D_law_row 
  have O_law_mind := ok_law_mind (P := l.prog) (w := w) (base := base) D_law_mind T0.toBlt
  have O_law_kept := ok_law_kept (P := l.prog) (w := w) (base := base) D_law_kept T0.toBlt O_law_mind
  have O_law_walked := ok_law_walked (P := l.prog) (w := w) (base := base) D_law_walked T0.toBlt O_law_mind
  have O_is_list_below := ok_is_list_below (P := l.prog) (w := w) (base := base) D_is_list_below T0.toBlt O_is_number_below
  have O_is_row := ok_is_row (P := l.prog) (w := w) (base := base) D_is_row T0 O_is_list_below
  have O_check_row := ok_check_row (P := l.prog) (w := w) (base := base) D_check_row O_is_row
  have O_check_places := ok_check_places (P := l.prog) (w := w) (base := base) D_check_places T0.toBlt O_is_list_below
  have O_Minding : OwnX l.prog w K mg base CX0 1 C_Minding C_DeedError "Minding" ["self", "at"] (spMinding _) := ⟨_, _, ok_Minding (P := l.prog) (w := w) (base := base) F21 TE, TE.kin.cls, a21, i21, xkp, PySem.W.mg_of X G aC_Minding, R_Minding⟩
  have O_exchanged := ok_exchanged (P := l.prog) (w := w) (base := base) D_exchanged TE O_check_row O_check_places O_Minds_mind O_Minding
  have O_law_at := ok_law_at (P := l.prog) (w := w) (base := base) D_law_at TE O_exchanged
  have O_had := ok_had (P := l.prog) (w := w) (base := base) D_had T0 O_check_row O_Minds_mind
  have O_law_part := ok_law_part (P := l.prog) (w := w) (base := base) D_law_part 
  exact ok_law F26 TE O_law_minds O_Minds O_Minds_pairs O_Minds_mind O_law_row O_law_kept O_law_walked O_law_at O_exchanged O_law_mind O_had O_law_part
theorem walk {l : PySem.W.OpenLaw} {q : Program} {loose : List Str} {XP : (Str → Option Value) → Heap → Prop} {YP : World → Heap → Prop} {d : DefRec} {K : Params → PySem.W.Frag} (hn : l.most = some 63) (hdf : d.params.defaults = [])
    (hY : ∀ (w : World) (h : Heap), YP w h → (K w.params).In h)
    (F : ∀ (w : World) (mg : Str → Option Value) (fa : Addr) (h : Heap), (K w.params).In h → h.Ns mainGlobals mg → mg d.name = some (.ref fa) →
      ∃ fd : FuncData, (∀ (s : Shared) (u : Value), BindsTo s fd ⟨[u], []⟩ [("_law_script", u)]) ∧ ∀ base : Heap, (K w.params).In base → base.Ns mainGlobals mg → FnOk l.prog w (K w.params) mg base CX0 8 fa fd ["_law_script"] (spLaw (K w.params))) :
    PySem.W.WalkO q loose XP YP l.row.toRowW d [] (fun f vs => PySem.call f vs) :=
  L2.walk_of (n := 63) (k := 8) (x := "_law_script") (CX := fun _ => CX0) (sp := fun w => spLaw (K w.params)) hn (by decide) hdf ⟨rfl, by decide, by decide⟩ hY F (fun _ _ a ns hl _ hS => ⟨a, ns, rfl, hS, hl, fun _ => rfl⟩) fun _ _ _ _ _ z => z
end J
open PySem PySem.W PyProof.Rows
set_option maxRecDepth 100000 in
set_option maxHeartbeats 0 in
theorem PySem.Challenge.cw_jostle_k01_exchanged_holds : PySem.Challenge.rw_jostle_k01_exchanged.Holds := by
  w_on; o_law; k_head; (case hw => w_witness2)
  k_fill
  refine J.walk (l := PySem.Challenge.rw_jostle_k01_exchanged) rfl rfl (fun w h Y => PySem.W.kIn_of Y) ?F
  case F =>
    intro w mg fa h KX G hmg
    refine' J.all_mk KX G hmg ?aC_Minds ?aC_DeedError ?aC_BadMinds ?aC_BadRow ?aC_BadPlaces ?aC_Minding ?a1 ?l1 ?c1 ?k1 ?a2 ?l2 ?c2 ?k2 ?a3 ?l3 ?c3 ?k3 ?a4 ?l4 ?c4 ?k4 ?a5 ?l5 ?c5 ?k5 ?a6 ?l6 ?c6 ?k6 ?a7 ?l7 ?c7 ?k7 ?a8 ?l8 ?c8 ?k8 ?a9 ?i9 ?l9 ?c9 ?k9 ?a10 ?i10 ?l10 ?c10 ?k10 ?a11 ?l11 ?c11 ?k11 ?a12 ?i12 ?l12 ?c12 ?k12 ?a13 ?l13 ?c13 ?k13 ?a14 ?l14 ?c14 ?k14 ?a15 ?l15 ?c15 ?k15 ?a16 ?l16 ?c16 ?k16 ?a17 ?l17 ?c17 ?k17 ?a18 ?l18 ?c18 ?k18 ?a19 ?l19 ?c19 ?k19 ?a20 ?l20 ?c20 ?k20 ?a21 ?i21 ?l21 ?c21 ?k21 ?a22 ?l22 ?c22 ?k22 ?a23 ?l23 ?c23 ?k23 ?a24 ?l24 ?c24 ?k24 ?a25 ?l25 ?c25 ?k25 ?a26 ?l26 ?c26 ?k26 ?pg_Minds ?hd_Minds ?po_Minds ?sa_Minds ?mk_Minds ?kc_Minds ?n_Minds_kinds ?n_Minds_paired ?n_Minds_nearby ?xc ?xd ?xn ?xs ?xf ?xga ?xgh ?xsa ?xha ?xat ?kn ?kt ?xkp ?kc1_DeedError ?kc2_DeedError ?ki_DeedError ?kc1_BadMinds ?kc2_BadMinds ?ki_BadMinds ?ne_BadMinds ?kc1_BadRow ?kc2_BadRow ?ki_BadRow ?ne_BadRow ?kc1_BadPlaces ?kc2_BadPlaces ?ki_BadPlaces ?ne_BadPlaces ?kc1_Minding ?kc2_Minding ?ki_Minding ?xbe ?xrd ?xsp ?xfc ?z_min ?z_max ?z_len ?z_sum ?z_range ?z_sorted ?z_set ?z_list ?z_dict ?z_isinstance ?z_int ?z_bool ?z_tuple ?z_enumerate ?z_any ?z_all ?z_reversed ?z_zip
    (case aC_Minds => k_is)
    (case aC_DeedError => k_is)
    (case aC_BadMinds => k_is)
    (case aC_BadRow => k_is)
    (case aC_BadPlaces => k_is)
    (case aC_Minding => k_is)
    (case a1 => k_is)
    (case l1 => k_is)
    (case c1 => k_is)
    (case k1 => k_is)
    (case a2 => k_is)
    (case l2 => k_is)
    (case c2 => k_is)
    (case k2 => k_is)
    (case a3 => k_is)
    (case l3 => k_is)
    (case c3 => k_is)
    (case k3 => k_is)
    (case a4 => k_is)
    (case l4 => k_is)
    (case c4 => k_is)
    (case k4 => k_is)
    (case a5 => k_is)
    (case l5 => k_is)
    (case c5 => k_is)
    (case k5 => k_is)
    (case a6 => k_is)
    (case l6 => k_is)
    (case c6 => k_is)
    (case k6 => k_is)
    (case a7 => k_is)
    (case l7 => k_is)
    (case c7 => k_is)
    (case k7 => k_is)
    (case a8 => k_is)
    (case l8 => k_is)
    (case c8 => k_is)
    (case k8 => k_is)
    (case a9 => k_is)
    (case i9 => k_is)
    (case l9 => k_is)
    (case c9 => k_is)
    (case k9 => k_is)
    (case a10 => k_is)
    (case i10 => k_is)
    (case l10 => k_is)
    (case c10 => k_is)
    (case k10 => k_is)
    (case a11 => k_is)
    (case l11 => k_is)
    (case c11 => k_is)
    (case k11 => k_is)
    (case a12 => k_is)
    (case i12 => k_is)
    (case l12 => k_is)
    (case c12 => k_is)
    (case k12 => k_is)
    (case a13 => k_is)
    (case l13 => k_is)
    (case c13 => k_is)
    (case k13 => k_is)
    (case a14 => k_is)
    (case l14 => k_is)
    (case c14 => k_is)
    (case k14 => k_is)
    (case a15 => k_is)
    (case l15 => k_is)
    (case c15 => k_is)
    (case k15 => k_is)
    (case a16 => k_is)
    (case l16 => k_is)
    (case c16 => k_is)
    (case k16 => k_is)
    (case a17 => k_is)
    (case l17 => k_is)
    (case c17 => k_is)
    (case k17 => k_is)
    (case a18 => k_is)
    (case l18 => k_is)
    (case c18 => k_is)
    (case k18 => k_is)
    (case a19 => k_is)
    (case l19 => k_is)
    (case c19 => k_is)
    (case k19 => k_is)
    (case a20 => k_is)
    (case l20 => k_is)
    (case c20 => k_is)
    (case k20 => k_is)
    (case a21 => k_is)
    (case i21 => k_is)
    (case l21 => k_is)
    (case c21 => k_is)
    (case k21 => k_is)
    (case a22 => k_is)
    (case l22 => k_is)
    (case c22 => k_is)
    (case k22 => k_is)
    (case a23 => k_is)
    (case l23 => k_is)
    (case c23 => k_is)
    (case k23 => k_is)
    (case a24 => k_is)
    (case l24 => k_is)
    (case c24 => k_is)
    (case k24 => k_is)
    (case a25 => k_is)
    (case l25 => k_is)
    (case c25 => k_is)
    (case k25 => k_is)
    (case a26 => k_is)
    (case l26 => k_is)
    (case c26 => k_is)
    (case k26 => k_is)
    (case pg_Minds => k_is)
    (case hd_Minds => k_is)
    (case po_Minds => k_is)
    (case sa_Minds => k_is)
    (case mk_Minds => k_is)
    (case kc_Minds => k_is)
    (case n_Minds_kinds => k_is)
    (case n_Minds_paired => k_is)
    (case n_Minds_nearby => k_is)
    (case xc => k_is)
    (case xd => k_is)
    (case xn => k_is)
    (case xs => rfl)
    (case xf => rfl)
    (case xga => k_is)
    (case xgh => k_is)
    (case xsa => k_is)
    (case xha => k_is)
    (case xat => k_is)
    (case kn => k_is)
    (case kt => k_is)
    (case xkp => k_is)
    (case kc1_DeedError => k_is)
    (case kc2_DeedError => k_is)
    (case ki_DeedError => k_is)
    (case kc1_BadMinds => k_is)
    (case kc2_BadMinds => k_is)
    (case ki_BadMinds => k_is)
    (case ne_BadMinds => decide)
    (case kc1_BadRow => k_is)
    (case kc2_BadRow => k_is)
    (case ki_BadRow => k_is)
    (case ne_BadRow => decide)
    (case kc1_BadPlaces => k_is)
    (case kc2_BadPlaces => k_is)
    (case ki_BadPlaces => k_is)
    (case ne_BadPlaces => decide)
    (case kc1_Minding => k_is)
    (case kc2_Minding => k_is)
    (case ki_Minding => k_is)
    (case xbe => k_is)
    (case xrd => k_is)
    (case xsp => k_is)
    (case xfc => k_is)
    (case z_min => k_is)
    (case z_max => k_is)
    (case z_len => k_is)
    (case z_sum => k_is)
    (case z_range => k_is)
    (case z_sorted => k_is)
    (case z_set => k_is)
    (case z_list => k_is)
    (case z_dict => k_is)
    (case z_isinstance => k_is)
    (case z_int => k_is)
    (case z_bool => k_is)
    (case z_tuple => k_is)
    (case z_enumerate => k_is)
    (case z_any => k_is)
    (case z_all => k_is)
    (case z_reversed => k_is)
    (case z_zip => k_is)
