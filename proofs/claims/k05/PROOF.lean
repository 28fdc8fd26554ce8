import PyProof.Rows.All
import Wide.All
import OpenK.AllK
import Wide.FinOn
import PySem.Challenge.RW_fewbrackets_k05_whole_by_ranks_and_sides
import Lean
import PyProof.EqAt
import PyProof.EqKinds
import PyProof.TupleCall
import PySem.Sem
import KE.KDictLaws
import PyProof.NeKinds
import KE.KIntText
import PyProof.StrOps2
import PyProof.SliceStr2
import KE.KRevIter
import PyProof.MeetsStr
import PyProof.CollectWalk
import PyProof.CompFree
import PyProof.CompUse
import KE.KDictOf
import PyProof.AttrMissSeq
import PyProof.TupleIter
import PyProof.DictStraight
set_option Elab.async false
set_option linter.all false
set_option maxRecDepth 100000
set_option maxHeartbeats 4000000
noncomputable section
namespace L2
open PySem PySem.Spec PyProof.Rows
noncomputable def isSt : Expr → Bool
  | .Starred _ _ => true
  | _ => false
theorem star_of {e : Expr} {es : List Expr} {env : Env} (h : isSt e = false) : starEach (e :: es) env = (false, eval e env) :: starEach es env := by
  cases e <;> first | rfl | cases h
theorem star_one {e : Expr} {env : Env} (h : isSt e = false) : starEach [e] env = [(false, eval e env)] := by
  rw [star_of h]; rfl
theorem star_two {e f : Expr} {env : Env} (h : isSt e = false) (h' : isSt f = false) : starEach [e, f] env = [(false, eval e env), (false, eval f env)] := by
  rw [star_of h, star_one h']
end L2
namespace L2
open PySem PySem.Spec PyProof.Rows

/-- a key: an int or a str -/
noncomputable abbrev Key := Sum Int Str
noncomputable def keyIs : Key → Value → Bool
  | .inl k, v => Value.isInt k v
  | .inr x, v => Value.isStrOf x v
noncomputable def keyH (w : World) : Key → Int
  | .inl k => hashInt k
  | .inr x => hashStr w x
theorem keyIs_shape : ∀ {k : Key} {v : Value}, keyIs k v = true → (∃ i t, k = Sum.inl i ∧ v = Value.int i t) ∨ (∃ x t, k = Sum.inr x ∧ v = Value.str x t)
  | .inl i, v, h => by
    obtain ⟨t, e⟩ := Value.isInt_shape (k := i) (v := v) h
    exact .inl ⟨i, t, rfl, e⟩
  | .inr x, v, h => by
    obtain ⟨t, e⟩ := Value.isStrOf_shape (x := x) (v := v) h
    exact .inr ⟨x, t, rfl, e⟩
theorem keyIs_int (i : Int) (t : Tok) : keyIs (.inl i) (.int i t) = true := by simp [keyIs, Value.isInt]
theorem keyIs_str (x : Str) (t : Tok) : keyIs (.inr x) (.str x t) = true := by simp [keyIs, Value.isStrOf]
theorem key_ll (a b : Int) : decide ((Sum.inl a : Key) = Sum.inl b) = (a == b) := by
  by_cases e : a = b
  · subst e; simp
  · have h : ¬ (Sum.inl a : Key) = Sum.inl b := fun q => e (Sum.inl.inj q)
    rw [decide_eq_false h]
    exact (beq_eq_false_iff_ne.mpr e).symm
theorem key_rr (a b : Str) : decide ((Sum.inr a : Key) = Sum.inr b) = decide (a = b) := by
  by_cases e : a = b
  · subst e; simp
  · have h : ¬ (Sum.inr a : Key) = Sum.inr b := fun q => e (Sum.inr.inj q)
    rw [decide_eq_false h, decide_eq_false e]
theorem key_lr (a : Int) (b : Str) : decide ((Sum.inl a : Key) = Sum.inr b) = false := decide_eq_false (fun q => nomatch q)
theorem key_rl (a : Str) (b : Int) : decide ((Sum.inr a : Key) = Sum.inl b) = false := decide_eq_false (fun q => nomatch q)

noncomputable def mixKind (prog : Program) (w : World) : PySem.KeyKind prog w Key where
  is := keyIs
  hash := keyH w
  inj := fun v a b ha hb => by
    rcases keyIs_shape ha with ⟨i, t, rfl, rfl⟩ | ⟨x, t, rfl, rfl⟩
    · rcases keyIs_shape hb with ⟨j, u, rfl, e⟩ | ⟨y, u, rfl, e⟩
      · injection e with e1 _; rw [e1]
      · exact nomatch e
    · rcases keyIs_shape hb with ⟨j, u, rfl, e⟩ | ⟨y, u, rfl, e⟩
      · exact nomatch e
      · injection e with e1 _; rw [e1]
  byValue := fun k v h => by
    rcases keyIs_shape h with ⟨i, t, rfl, rfl⟩ | ⟨x, t, rfl, rfl⟩ <;> rfl
  pyHash := fun hv h => by
    rcases keyIs_shape hv with ⟨i, t, rfl, rfl⟩ | ⟨x, t, rfl, rfl⟩
    · exact wpAny_pyHash_int h
    · exact wpAny_pyHash_str h
  eqBool := fun hu hv h => by
    rcases keyIs_shape hu with ⟨i, t, rfl, rfl⟩ | ⟨x, t, rfl, rfl⟩
    · rcases keyIs_shape hv with ⟨j, u, rfl, rfl⟩ | ⟨y, u, rfl, rfl⟩
      · rw [key_ll] at h; exact wpAny_eqBool_int h
      · rw [key_lr] at h; exact SeqAt.EqAt.int_str i t y u _ _ _ _ h
    · rcases keyIs_shape hv with ⟨j, u, rfl, rfl⟩ | ⟨y, u, rfl, rfl⟩
      · rw [key_rl] at h; exact SeqAt.EqAt.str_int x t j u _ _ _ _ h
      · rw [key_rr] at h; exact wpAny_eqBool_str h
  «strs» := fun k x t v h => by
    rcases keyIs_shape h with ⟨i, u, rfl, e⟩ | ⟨y, u, rfl, e⟩
    · exact nomatch e
    · injection e with e1 _
      subst e1
      cases v <;> rfl

theorem mixKind_int (prog : Program) (w : World) (i : Int) (t : Tok) : (mixKind prog w).is (.inl i) (.int i t) = true := keyIs_int i t
theorem mixKind_str (prog : Program) (w : World) (x : Str) (t : Tok) : (mixKind prog w).is (.inr x) (.str x t) = true := keyIs_str x t
end L2

namespace L2
open PySem PySem.Spec PyProof.Rows

/-- a value, without the heap -/
inductive V where
  | non | bl (b : Bool) | int (i : Int) | str (x : Str) | byt (b : Array UInt8) | flt (b : UInt64) | ref (a : Addr) | ty (n : String)
  deriving DecidableEq

noncomputable def RelV : V → Value → Prop
  | .non, u => u = Value.none
  | .bl b, u => u = Value.bool b
  | .int i, u => ∃ t, u = Value.int i t
  | .str x, u => ∃ t, u = Value.str x t
  | .byt b, u => ∃ t, u = Value.bytes b t
  | .flt b, u => ∃ t, u = Value.float b t
  | .ref a, u => u = Value.ref a
  | .ty n, u => u = Value.type n

noncomputable abbrev Vals : List V → List Value → Prop := Paired RelV
theorem Vals.length {xs : List V} {us : List Value} (r : Vals xs us) : xs.length = us.length := Paired.length r
theorem Vals.get : ∀ {xs : List V} {us : List Value} {i : Nat} {x : V}, Vals xs us → xs[i]? = some x → ∃ u, us[i]? = some u ∧ RelV x u
  | _, _, _, _, .nil, e => by simp at e
  | _, _, 0, _, .cons r _, e => by simp at e; subst e; exact ⟨_, rfl, r⟩
  | _, _, i + 1, x, .cons _ t, e => by
    obtain ⟨u, h1, h2⟩ := Vals.get (i := i) (x := x) t (by simpa using e)
    exact ⟨u, by simpa using h1, h2⟩
theorem Vals.append : ∀ {xs ys : List V} {us ws : List Value}, Vals xs us → Vals ys ws → Vals (xs ++ ys) (us ++ ws)
  | _, _, _, _, .nil, s => s
  | _, _, _, _, .cons r t, s => .cons r (Vals.append t s)
theorem Vals.take : ∀ {xs : List V} {us : List Value} (n : Nat), Vals xs us → Vals (xs.take n) (us.take n)
  | _, _, 0, _ => .nil
  | _, _, _ + 1, .nil => .nil
  | _, _, n + 1, .cons r t => .cons r (Vals.take n t)
theorem Vals.drop : ∀ {xs : List V} {us : List Value} (n : Nat), Vals xs us → Vals (xs.drop n) (us.drop n)
  | _, _, 0, r => r
  | _, _, _ + 1, .nil => .nil
  | _, _, n + 1, .cons _ t => Vals.drop n t
noncomputable def RelO : Option V → Option Value → Prop
  | some v, some u => RelV v u
  | none, none => True
  | _, _ => False
noncomputable def KV {κ : Type} : List (κ × V) → List (κ × Value) → Prop := Paired fun (p : κ × V) (q : κ × Value) => p.1 = q.1 ∧ RelV p.2 q.2

/-- a key of a dict (00_mix): an int or a text -/
noncomputable def kV : Key → V
  | .inl i => .int i
  | .inr x => .str x

/-- what stands at a tracked address -/
inductive HO where
  /-- a list -/
  | lst (xs : List V)
  /-- a tuple (never changes) -/
  | tup (xs : List V)
  /-- a dict whose keys are ints and texts; one whose keys are tuples of ints and texts (the empty one is both) -/
  | dK (kvs : List (Key × V)) | dT (kvs : List (List Key × V))
  /-- a set of ints: its members, its size -/
  | set (S : Int → Bool) (n : Nat)
  /-- an instance of the class at C, its dict at dx, its attributes -/
  | ins (C dx : Addr) (fs : List (Str × V))
  /-- the dict of the instance at x -/
  | own (x : Addr)
  /-- the dict of an exception -/
  | xd (fs : List (Str × V))
  /-- a bound method, f of x -/
  | met (f x : Addr)
  /-- a range object lo, lo + 1, .. below hi -/
  | rng (lo hi : Int)
  /-- a thing that is known to the object (the script; a dict while a loop walks it): read, never written while it is so -/
  | frz (o : Obj) (u : HO)
  /-- a code object's table -/
  | tbl (ps : Array Value)
  /-- any other thing, by what is true of its one object (a def of one's own: SetO a S n := HO.ext fun h => ..) -/
  | ext (φ : Heap → Prop)

noncomputable abbrev Hp := Addr → Option HO
noncomputable def upd (H : Hp) (a : Addr) (o : HO) : Hp := fun b => if b = a then some o else H b
theorem upd_same {H : Hp} {a : Addr} {o : HO} : upd H a o a = some o := by unfold upd; rw [if_pos rfl]
theorem upd_ne {H : Hp} {a b : Addr} {o : HO} (h : b ≠ a) : upd H a o b = H b := by unfold upd; rw [if_neg h]
/-- two objects of different content stand apart -/
theorem ne_of {H : Hp} {a b : Addr} {o u : HO} (h : H a = some o) (h' : H b = some u) (d : o ≠ u) : a ≠ b := by
  intro e; subst e; rw [h] at h'; exact d (Option.some.inj h')
theorem ne_of_none {H : Hp} {a b : Addr} {o : HO} (h : H a = some o) (h' : H b = none) : a ≠ b := by
  intro e; subst e; rw [h] at h'; cases h'

section
variable (P : Program) (w : World)
noncomputable def ObjOk (H : Hp) (h : Heap) (a : Addr) : HO → Prop
  | .lst xs => xs.length ≤ sizeLine ∧ ∃ (its : List Value) (n : Nat), Vals xs its ∧ h.get? a = some { cls := .type "list", data := .seq its.toArray n }
  | .tup xs => xs.length ≤ sizeLine ∧ ∃ its : List Value, Vals xs its ∧ IsTup h a its.toArray
  | .dK kvs => kvs.length ≤ sizeLine ∧ (a == sysModules) = false ∧ ∃ vs, KV kvs vs ∧ h.DictOf (mixKind P w) a vs
  | .dT kvs => kvs.length ≤ sizeLine ∧ (a == sysModules) = false ∧ ∃ xs : List (List Key × Addr × Value),
      Paired (fun (p : List Key × V) (q : List Key × Addr × Value) => p.1 = q.1 ∧ H q.2.1 = some (.tup (p.1.map kV)) ∧ RelV p.2 q.2.2) kvs xs ∧
      ∃ o es ep, h.get? a = some o ∧ o.ExactDict ∧ o.data = .dict es ep ∧ es.toList = xs.map (entryOfKey (tupleKind (mixKind P w))) ∧ (xs.map (·.1)).Nodup
  | .set S n => h.SetOf (intKind P w) a S n
  | .ins C dx fs => H dx = some (.own a) ∧ fs.length ≤ 1000 ∧ dx ≠ a ∧ h.get? a = some (PySem.W.instObj C dx) ∧
      ∃ mA, h.Ns1 dx mA ∧ (∀ f, RelO (fs.lookup f) (mA f)) ∧ PySem.Within mA (fs.map (·.1))
  | .own _ => ∃ o, h.get? a = some o
  | .xd fs => ∃ mA, h.Ns1 a mA ∧ ∀ f, RelO (fs.lookup f) (mA f)
  | .rng lo hi => ∃ t u v, h.get? a = some { cls := .type "range", data := .fields #[.int lo t, .int hi u, .int 1 v] }
  | .frz o u => h.get? a = some o ∧ ObjOk H h a u
  | .tbl ps => h.get? a = some { cls := .none, data := .fields ps }
  | .met f x => h.get? a = some (PySem.W.methodObj (.ref f) (.ref x))
  | .ext φ => φ h ∧ (∃ o, h.get? a = some o) ∧ ∀ h1 h2 : Heap, φ h1 → (∀ o, h1.get? a = some o → h2.get? a = some o) → φ h2
/-- the abstract heap is held -/
noncomputable def HOk (H : Hp) (h : Heap) : Prop := ∀ a o, H a = some o → ObjOk P w H h a o
end

section
variable {P : Program} {w : World} {H H' : Hp} {h h' : Heap} {a : Addr} {o : HO}
theorem ObjOk.lt (x : ObjOk P w H h a o) : a < h.objs.size := by
  cases o with
  | lst xs => obtain ⟨_, _, _, _, e⟩ := x; exact Heap.lt_size e
  | tup xs => obtain ⟨_, _, _, p⟩ := x; exact p.lt
  | dK kvs => obtain ⟨_, _, _, _, o, _, _, e, _⟩ := x; exact Heap.lt_size e
  | dT kvs => obtain ⟨_, _, _, _, o, _, _, e, _⟩ := x; exact Heap.lt_size e
  | set S n => obtain ⟨o, _, _, _, e, _⟩ := x; exact Heap.lt_size e
  | ins C dx fs => obtain ⟨_, _, _, e, _⟩ := x; exact Heap.lt_size e
  | own y => obtain ⟨_, e⟩ := x; exact Heap.lt_size e
  | xd fs => obtain ⟨_, ⟨_, _, _, e, _⟩, _⟩ := x; exact Heap.lt_size e
  | rng lo hi => obtain ⟨_, _, _, e⟩ := x; exact Heap.lt_size e
  | frz ob u => obtain ⟨e, _⟩ := x; exact Heap.lt_size e
  | tbl ps => exact Heap.lt_size (show h.get? a = some _ from x)
  | met f y => exact Heap.lt_size (show h.get? a = some _ from x)
  | ext φ => obtain ⟨_, ⟨_, e⟩, _⟩ := x; exact Heap.lt_size e
theorem Paired.mapP {α β : Type} {F G : α → β → Prop} : ∀ {l₁ : List α} {l₂ : List β}, Paired F l₁ l₂ → (∀ a b, F a b → G a b) → Paired G l₁ l₂
  | _, _, .nil, _ => .nil
  | _, _, .cons r t, f => .cons (f _ _ r) (Paired.mapP t f)
/-- what an object's description leans on: its own object, its own dict, the tuples -/
theorem ObjOk.stay (x : ObjOk P w H h a o) (k : ∀ b u, (b = a ∨ H b = some (.own a)) → h.get? b = some u → h'.get? b = some u)
    (ho : ∀ b, H b = some (.own a) → H' b = some (.own a)) (ht : ∀ b xs, H b = some (.tup xs) → H' b = some (.tup xs)) : ObjOk P w H' h' a o := by
  induction o with
  | lst xs => obtain ⟨z, its, n, r, e⟩ := x; exact ⟨z, its, n, r, k _ _ (.inl rfl) e⟩
  | tup xs => obtain ⟨z, its, r, ob, e, c⟩ := x; exact ⟨z, its, r, ob, k _ _ (.inl rfl) e, c⟩
  | dK kvs => obtain ⟨z, y, vs, r, ob, es, ep, e, c⟩ := x; exact ⟨z, y, vs, r, ob, es, ep, k _ _ (.inl rfl) e, c⟩
  | dT kvs =>
    obtain ⟨z, y, xs, r, ob, es, ep, e, c⟩ := x
    exact ⟨z, y, xs, Paired.mapP r fun p q z => ⟨z.1, ht _ _ z.2.1, z.2.2⟩, ob, es, ep, k _ _ (.inl rfl) e, c⟩
  | set S n => obtain ⟨ob, es, ep, t, e, c⟩ := x; exact ⟨ob, es, ep, t, k _ _ (.inl rfl) e, c⟩
  | ins C dx fs =>
    obtain ⟨d, z, ne, e, mA, ⟨od, es, ep, e2, c⟩, r⟩ := x
    exact ⟨ho _ d, z, ne, k _ _ (.inl rfl) e, mA, ⟨od, es, ep, k _ _ (.inr d) e2, c⟩, r⟩
  | own y => obtain ⟨ob, e⟩ := x; exact ⟨ob, k _ _ (.inl rfl) e⟩
  | xd fs => obtain ⟨mA, ⟨od, es, ep, e, c⟩, r⟩ := x; exact ⟨mA, ⟨od, es, ep, k _ _ (.inl rfl) e, c⟩, r⟩
  | rng lo hi => obtain ⟨t, u, v, e⟩ := x; exact ⟨t, u, v, k _ _ (.inl rfl) e⟩
  | frz ob u ih => obtain ⟨e, q⟩ := x; exact ⟨k _ _ (.inl rfl) e, ih q⟩
  | tbl ps =>
    have e : h.get? a = some { cls := .none, data := .fields ps } := x
    show h'.get? a = some { cls := .none, data := .fields ps }
    exact k a _ (.inl rfl) e
  | met f y =>
    have e : h.get? a = some (PySem.W.methodObj (.ref f) (.ref y)) := x
    show h'.get? a = some (PySem.W.methodObj (.ref f) (.ref y))
    exact k a _ (.inl rfl) e
  | ext φ => obtain ⟨p, ⟨o, e⟩, st⟩ := x; exact ⟨st _ _ p fun o q => k _ _ (.inl rfl) q, ⟨o, k _ _ (.inl rfl) e⟩, st⟩
theorem HOk.lt (x : HOk P w H h) (e : H a = some o) : a < h.objs.size := (x a o e).lt
theorem HOk.fresh (x : HOk P w H h) (e : h.objs.size ≤ a) : H a = none := by
  cases q : H a with
  | none => rfl
  | some u => exact absurd (Nat.lt_of_lt_of_le (x.lt q) e) (Nat.lt_irrefl _)
/-- every object of the heap is kept -/
theorem HOk.kept (x : HOk P w H h) (k : ∀ b u, h.get? b = some u → h'.get? b = some u) : HOk P w H h' := fun a o e =>
  (x a o e).stay (fun b u _ q => k b u q) (fun _ q => q) fun _ _ q => q
/-- a new object is laid and tracked -/
theorem HOk.laid (x : HOk P w H h) (k : ∀ b u, h.get? b = some u → h'.get? b = some u) (hp : h.objs.size ≤ a) (new : ObjOk P w (upd H a o) h' a o) : HOk P w (upd H a o) h' := fun b u e => by
  have hn := x.fresh hp
  by_cases hb : b = a
  · subst hb; rw [upd_same] at e; cases e; exact new
  · rw [upd_ne hb] at e
    exact (x b u e).stay (fun c v _ q => k c v q) (fun c q => by rw [upd_ne (ne_of_none q hn)]; exact q) fun c xs q => by rw [upd_ne (ne_of_none q hn)]; exact q
end

/-- what may be read as u: it is u, or a known u -/
noncomputable def Rd (H : Hp) (a : Addr) (u : HO) : Prop := H a = some u ∨ ∃ o, H a = some (.frz o u)
theorem Rd.ok {P : Program} {w : World} {H : Hp} {h : Heap} {a : Addr} {u : HO} (r : Rd H a u) (x : HOk P w H h) : ObjOk P w H h a u := by
  rcases r with r | ⟨o, r⟩
  · exact x a u r
  · obtain ⟨_, q⟩ := x a _ r
    exact q
/-- what may be written -/
noncomputable def Mut : Option HO → Prop
  | some (.lst _) => True
  | some (.dK _) => True
  | some (.dT _) => True
  | some (.set _ _) => True
  | some (.ins _ _ _) => True
  | some (.ext _) => True
  | _ => False
section
variable {P : Program} {w : World} {H : Hp} {h h' : Heap} {x e : Addr} {o' : HO}
/-- the object at e is changed: x itself, or the dict of the instance x -/
theorem HOk.write (ok : HOk P w H h) (mu : Mut (H x)) (he : e = x ∨ H e = some (.own x)) (k : ∀ b u, b ≠ e → h.get? b = some u → h'.get? b = some u) (heo : ∃ u, h'.get? e = some u)
    (new : ObjOk P w (upd H x o') h' x o') : HOk P w (upd H x o') h' := fun b u q => by
  have nown : ∀ c y, H c = some (.own y) → c ≠ x := fun c y r z => by subst z; rw [r] at mu; exact mu
  have ntup : ∀ c xs, H c = some (.tup xs) → c ≠ x := fun c xs r z => by subst z; rw [r] at mu; exact mu
  by_cases hb : b = x
  · subst hb; rw [upd_same] at q; cases q; exact new
  · rw [upd_ne hb] at q
    by_cases hbe : b = e
    · have q' : H b = some (.own x) := by
        rcases he with z | z
        · exact absurd (hbe.trans z) hb
        · rw [hbe]; exact z
      rw [q] at q'; cases q'
      obtain ⟨v, hv⟩ := heo
      exact ⟨v, by rw [hbe]; exact hv⟩
    · refine (ok b u q).stay (fun c v hc r => k c v ?_ r) (fun c r => by rw [upd_ne (nown c b r)]; exact r) fun c xs r => by rw [upd_ne (ntup c xs r)]; exact r
      rcases hc with rfl | hc
      · exact hbe
      · rintro rfl
        rcases he with z | z
        · exact nown c b hc z
        · rw [hc] at z; cases z; exact hb rfl
end

/-! ### kept unless tracked; of the frames at fs (the callers') the slots may change (an exception that passes writes there); of the records at ex (iterators) nothing is said -/
structure Un (fs ex : List Addr) (H H' : Hp) (h h' : Heap) : Prop where
  keep : ∀ b o, h.get? b = some o → H b = none → b ∉ fs → b ∉ ex → h'.get? b = some o
  slot : ∀ b o, h.get? b = some o → H b = none → b ∈ fs → b ∉ ex → ∃ sl, h'.get? b = some { o with slots := sl }
  free : ∀ b o, h.get? b = some o → H b = none → b ∉ ex → H' b = none
  there : ∀ b o, h.get? b = some o → b ∉ ex → ∃ o', h'.get? b = some o'
  tups : ∀ b xs, H b = some (.tup xs) → H' b = some (.tup xs)
  frzs : ∀ b o u, H b = some (.frz o u) → H' b = some (.frz o u)
  tbls : ∀ b ps, H b = some (.tbl ps) → ∃ more, H' b = some (.tbl (ps ++ more))
section
variable {fs fs' ex ex' : List Addr} {H H1 H2 : Hp} {h h1 h2 h' : Heap} {a x e : Addr} {o : HO}
theorem Un.any (u : Un fs ex H H1 h h1) {b : Addr} {ob : Obj} (q : h.get? b = some ob) (n : H b = none) (hx : b ∉ ex) : ∃ sl, h1.get? b = some { ob with slots := sl } := by
  by_cases hb : b ∈ fs
  · exact u.slot b ob q n hb hx
  · exact ⟨ob.slots, u.keep b ob q n hb hx⟩
theorem Un.kept (k : ∀ b u, h.get? b = some u → h'.get? b = some u) : Un fs ex H H h h' :=
  ⟨fun b ob q _ _ _ => k b ob q, fun b ob q _ _ _ => ⟨ob.slots, k b ob q⟩, fun _ _ _ n _ => n, fun b ob q _ => ⟨ob, k b ob q⟩, fun _ _ q => q, fun _ _ _ q => q, fun _ ps q => ⟨#[], by rw [q]; simp⟩⟩
theorem Un.refl : Un fs ex H H h h := Un.kept fun _ _ q => q
theorem Un.laid (k : ∀ b u, h.get? b = some u → h'.get? b = some u) (hp : h.objs.size ≤ a) (hn : H a = none) : Un fs ex H (upd H a o) h h' where
  keep := fun b u q _ _ _ => k b u q
  slot := fun b u q _ _ _ => ⟨u.slots, k b u q⟩
  free := fun b u q n _ => by rw [upd_ne (Nat.ne_of_lt (Nat.lt_of_lt_of_le (Heap.lt_size q) hp))]; exact n
  there := fun b u q _ => ⟨u, k b u q⟩
  tups := fun b xs q => by rw [upd_ne (ne_of_none q hn)]; exact q
  frzs := fun b u xs q => by rw [upd_ne (ne_of_none q hn)]; exact q
  tbls := fun b ps q => ⟨#[], by rw [upd_ne (ne_of_none q hn), q]; simp⟩
theorem Un.write (mu : Mut (H x)) (he : e = x ∨ H e = some (.own x)) (k : ∀ b u, b ≠ e → h.get? b = some u → h'.get? b = some u) (heo : ∃ u, h'.get? e = some u) : Un fs ex H (upd H x o) h h' := by
  have hx : ∀ b, H b = none → b ≠ x := fun b n z => by subst z; rw [n] at mu; exact mu
  have hb : ∀ b, H b = none → b ≠ e := fun b n z => by
    subst z
    rcases he with r | r
    · exact hx b n r
    · rw [n] at r; cases r
  have hm : ∀ b u, H b = some u → ¬ Mut (some u) → b ≠ x := fun b u q nm z => by subst z; rw [q] at mu; exact nm mu
  refine ⟨fun b u q n _ _ => k b u (hb b n) q, fun b u q n _ _ => ⟨u.slots, k b u (hb b n) q⟩, fun b u q n _ => by rw [upd_ne (hx b n)]; exact n, fun b u q _ => ?_,
    fun b xs q => by rw [upd_ne (hm b _ q fun z => z)]; exact q, fun b u xs q => by rw [upd_ne (hm b _ q fun z => z)]; exact q, fun b ps q => ⟨#[], by rw [upd_ne (hm b _ q fun z => z), q]; simp⟩⟩
  by_cases hbe : b = e
  · subst hbe; exact heo
  · exact ⟨u, k b u hbe q⟩
end

/-! ### the heap without what is tracked -/
noncomputable def trk (h : Heap) (H : Hp) : List Addr := (List.range h.objs.size).filter fun a => (H a).isSome
noncomputable def hidT (h : Heap) (H : Hp) : Heap := PySem.W.hideAll h (trk h H)
theorem hidT_size (h : Heap) (H : Hp) : (hidT h H).objs.size = h.objs.size := PySem.W.hideAll_size _ _
theorem hidT_get {h : Heap} {H : Hp} {b : Addr} {o : Obj} (e : h.get? b = some o) (n : H b = none) : (hidT h H).get? b = some o :=
  PySem.W.hideAll_get _ e fun hm => by
    have q : (H b).isSome = true := (List.mem_filter.mp hm).2
    rw [n] at q; simp at q
theorem of_hidT {h : Heap} {H : Hp} {b : Addr} {o : Obj} (e : (hidT h H).get? b = some o) : h.get? b = some o ∧ H b = none := by
  have e' : h.get? b = some o := PySem.W.of_hideAll (trk h H) e
  refine ⟨e', ?_⟩
  cases q : H b with
  | none => rfl
  | some x =>
    have hm : b ∈ trk h H := List.mem_filter.mpr ⟨List.mem_range.mpr (Heap.lt_size e'), by simp [q]⟩
    have z : (hidT h H).get? b = none := PySem.W.hideAll_none (trk h H) hm
    rw [z] at e; cases e

/-! ### OpenK's ledger, filled with every new object but one -/
end L2

namespace L2
open PySem PySem.Spec PyProof.Rows

/-- the module's facts, over the base: the heap at the law's entry without what is tracked there -/
structure Mod (K : PySem.W.Frag) (mg : Str → Option Value) (base : Heap) : Prop where
  kin : K.In base
  glob : base.Ns mainGlobals mg
  blt : ∃ mb, base.Ns builtinsNs mb ∧ ∀ x : Str, x ≠ "__name__" → mb x = bootBuiltins x
  nolimit : base.NoLimit

/-- the context: a def's body (or a comprehension's block) running. base: fixed through the whole law; s₀, H₀: the entry; outer: the frames whose slots others may change (a def's callers); stack: all frames that run;
   ex: iterators that were made ahead of the entry and are walked here (a comprehension's); fn: the names whose cells were made at the entry (a def: all; a comprehension's block: its own); calm: not within an except suite; pn: pins that every state bears; xe: what is wanted of an exception that leaves the code -/
structure Cx where
  prog : Program
  w : World
  K : PySem.W.Frag
  mg : Str → Option Value
  base : Heap
  A : Around
  N : List Str
  s₀ : Shared
  H₀ : Hp
  env : Env
  outer : List Env
  stack : List Env
  ex : List Addr
  fn : Str → Bool
  calm : Bool
  pn : List (Addr × Obj)
  xe : Value → Shared → Prop
/-- the callers' frames -/
noncomputable def frs (l : List Env) : List Addr := l.filterMap (·.frame)
noncomputable abbrev Cx.fs (X : Cx) : List Addr := frs X.outer

noncomputable def Vis (sc : Scope) (x : Str) : Prop := sc.names.lookup x = some .local ∨ sc.names.lookup x = some .cell ∨ sc.names.lookup x = some .free
noncomputable def Loc (sc : Scope) (x : Str) : Prop := sc.names.lookup x = some .local ∨ sc.names.lookup x = some .cell
noncomputable def Look (env : Env) (h : Heap) (m : Str → Option Value) (x : Str) (u : Value) : Prop :=
  (env.kindOf x = some .local ∧ m x = some u) ∨ ((env.kindOf x = some .cell ∨ env.kindOf x = some .free) ∧ ∃ c, env.cells.lookup x = some c ∧ h.IsCell c (some u))

structure Cx.Ok (X : Cx) : Prop where
  mod : Mod X.K X.mg X.base
  kind : X.env.scope.kind = .function
  glob : X.env.globals = mainGlobals
  blt : X.env.builtins = builtinsNs
  above : X.s₀.heap.objs.size ≤ X.env.locals
  inj : ∀ x y c, X.env.cells.lookup x = some c → X.env.cells.lookup y = some c → x = y
  has : ∀ x, (X.env.kindOf x = some .cell ∨ X.env.kindOf x = some .free) → ∃ c, X.env.cells.lookup x = some c
  cab : ∀ x c, X.fn x = true → X.env.cells.lookup x = some c → X.s₀.heap.objs.size ≤ c
  hd : X.calm = true → X.A.handled = none
  frames : X.A.frames = some X.stack
  stk : X.stack = X.outer ∨ (X.stack = X.env :: X.outer ∧ X.env.frame = some X.env.locals)
  exf : ∀ b ∈ X.ex, b ≠ X.env.locals ∧ ∀ x c, X.env.cells.lookup x = some c → c ≠ b
  bs : ∀ b o, X.base.get? b = some o → X.s₀.heap.get? b = some o ∧ X.H₀ b = none
  bsz : X.base.objs.size ≤ X.s₀.heap.objs.size
  noex : ∀ b o, X.base.get? b = some o → b ∉ X.ex
  exfs : ∀ b ∈ X.ex, b ∉ X.fs
  funs : X.s₀.heap.FunFrames X.base X.outer
  frf : ∀ b ∈ X.fs, X.H₀ b = none

structure Inv (X : Cx) (pins : List (Addr × Obj)) (σ : List (Option V)) (H : Hp) (s : Shared) : Prop where
  ok : X.Ok
  os : s.os = X.s₀.os
  bare : AllBare s.gens
  base : Un X.fs X.ex X.H₀ H X.s₀.heap s.heap
  loc : ∃ m, s.heap.Ns X.env.locals m ∧ ∀ (i : Nat) (x : Str) (v : V), X.N[i]? = some x → σ[i]? = some (some v) → Vis X.env.scope x → ∃ u, RelV v u ∧ Look X.env s.heap m x u
  cell : ∀ x c, X.env.cells.lookup x = some c → ∃ v, s.heap.IsCell c v
  free : H X.env.locals = none
  freeC : ∀ x c, X.env.cells.lookup x = some c → H c = none
  pin : ∀ p ∈ X.pn ++ pins, s.heap.get? p.1 = some p.2 ∧ H p.1 = none ∧ p.1 ≠ X.env.locals ∧ p.1 ∉ X.fs ∧ ∀ v, p.2.data ≠ .cell v
  hok : HOk X.prog X.w H s.heap
  len : σ.length = X.N.length

section
variable {X : Cx} {pins : List (Addr × Obj)} {σ : List (Option V)} {H H' : Hp} {s : Shared} {h' : Heap}

theorem Cx.Ok.nofr (ok : X.Ok) {b : Addr} {o : Obj} (e : X.base.get? b = some o) : b ∉ X.fs := fun hb => by
  have := (ok.funs.mem hb).1
  rw [e] at this; cases this
theorem Inv.bs (I : Inv X pins σ H s) : ∀ b o, X.base.get? b = some o → s.heap.get? b = some o ∧ H b = none := fun b o e =>
  ⟨I.base.keep b o (I.ok.bs b o e).1 (I.ok.bs b o e).2 (I.ok.nofr e) (I.ok.noex b o e), I.base.free b o (I.ok.bs b o e).1 (I.ok.bs b o e).2 (I.ok.noex b o e)⟩
theorem Inv.bk (I : Inv X pins σ H s) : ∀ b o, X.base.get? b = some o → s.heap.get? b = some o := fun b o e => (I.bs b o e).1
theorem Inv.mod (I : Inv X pins σ H s) : Mod X.K X.mg X.base := I.ok.mod
theorem Inv.kIn (I : Inv X pins σ H s) : X.K.In s.heap := I.ok.mod.kin.keeps I.bk
theorem Inv.lt (I : Inv X pins σ H s) : X.env.locals < s.heap.objs.size := let ⟨_, hn, _⟩ := I.loc; hn.lt
theorem Inv.sz (I : Inv X pins σ H s) : X.s₀.heap.objs.size ≤ s.heap.objs.size := Nat.le_trans I.ok.above (Nat.le_of_lt I.lt)
theorem Inv.nofs (I : Inv X pins σ H s) {a : Addr} (h : s.heap.objs.size ≤ a) : a ∉ X.fs := fun hb => by
  obtain ⟨_, o, ho, _⟩ := I.ok.funs.mem hb
  exact absurd (Nat.lt_of_lt_of_le (Heap.lt_size ho) (Nat.le_trans I.sz h)) (Nat.lt_irrefl _)
theorem Inv.cne (I : Inv X pins σ H s) : ∀ x c, X.env.cells.lookup x = some c → c ≠ X.env.locals := fun x c e z => by
  obtain ⟨v, o, ho, hd⟩ := I.cell x c e
  obtain ⟨m, ⟨o', es, ep, ho', hd', _⟩, _⟩ := I.loc
  rw [z, ho'] at ho; cases ho; rw [hd'] at hd; cases hd
theorem Inv.funs (I : Inv X pins σ H s) : s.heap.FunFrames X.base X.outer := by
  have all : ∀ (l : List Env), (∀ b ∈ frs l, b ∈ X.fs) → X.s₀.heap.FunFrames X.base l → s.heap.FunFrames X.base l := by
    intro l
    induction l with
    | nil => intro _ _; trivial
    | cons env r ih =>
      intro hs hl
      obtain ⟨hk, ⟨L, o, hf, hn, ho, hd⟩, hr⟩ := hl
      have hL : L ∈ X.fs := hs L (by unfold frs; rw [List.filterMap_cons, hf]; exact List.mem_cons_self)
      obtain ⟨sl, e⟩ := I.base.slot L o ho (I.ok.frf L hL) hL fun z => I.ok.exfs L z hL
      exact ⟨hk, ⟨L, _, hf, hn, e, hd⟩, ih (fun b hb => hs b (by unfold frs; rw [List.filterMap_cons, hf]; exact List.mem_cons_of_mem _ hb)) hr⟩
  exact all X.outer (fun _ hb => hb) I.ok.funs

/-- the frames that run, for a call -/
theorem Inv.stack (I : Inv X pins σ H s) : s.heap.FunFrames X.base X.stack := by
  rcases I.ok.stk with e | ⟨e, hf⟩
  · rw [e]; exact I.funs
  · rw [e]
    obtain ⟨m, hn, _⟩ := I.loc
    refine .cons (by rw [I.ok.kind]; decide) hf hn ?_ I.funs
    exact Heap.get?_none_of_le (Nat.le_trans I.ok.bsz I.ok.above)
theorem Inv.stkSub (I : Inv X pins σ H s) : ∀ b ∈ frs X.stack, b ∈ X.env.locals :: X.fs := fun b hb => by
  rcases I.ok.stk with e | ⟨e, hf⟩
  · rw [e] at hb; exact List.mem_cons_of_mem _ hb
  · rw [e] at hb
    unfold frs at hb
    rw [List.filterMap_cons, hf] at hb
    exact hb
theorem Inv.stkFree (I : Inv X pins σ H s) : ∀ b ∈ frs X.stack, H b = none := fun b hb => by
  rcases List.mem_cons.mp (I.stkSub b hb) with e | hb
  · rw [e]; exact I.free
  · obtain ⟨_, o, ho, _⟩ := I.ok.funs.mem hb
    exact I.base.free b o ho (I.ok.frf b hb) fun z => I.ok.exfs b z hb

/-- THE STEP: the untracked objects but the frame and the records at ch are kept (the callers' frames up to slots), the frame's map is kept, the new abstract heap is held -/
theorem Inv.step {g' : Array GenState} {t' : Nat} {d' : Drawn} {ch : List Addr} (I : Inv X pins σ H s)
    (hch : ∀ b ∈ ch, (b ∈ X.ex ∨ X.s₀.heap.objs.size ≤ b) ∧ b ≠ X.env.locals ∧ (∀ x c, X.env.cells.lookup x = some c → c ≠ b) ∧ ∀ p ∈ X.pn ++ pins, p.1 ≠ b)
    (keep : ∀ b o, b ≠ X.env.locals → b ∉ X.fs → b ∉ ch → s.heap.get? b = some o → H b = none → h'.get? b = some o)
    (slot : ∀ b o, b ≠ X.env.locals → b ∈ X.fs → b ∉ ch → s.heap.get? b = some o → H b = none → ∃ sl, h'.get? b = some { o with slots := sl }) (free : ∀ b o, b ∉ ch → s.heap.get? b = some o → H b = none → H' b = none)
    (there : ∀ b o, b ∉ ch → s.heap.get? b = some o → ∃ o', h'.get? b = some o')
    (tups : ∀ b xs, H b = some (.tup xs) → H' b = some (.tup xs)) (frzs : ∀ b o u, H b = some (.frz o u) → H' b = some (.frz o u)) (tbls : ∀ b ps, H b = some (.tbl ps) → ∃ more, H' b = some (.tbl (ps ++ more)))
    (ns : ∀ m, s.heap.Ns X.env.locals m → h'.Ns X.env.locals m) (hok : HOk X.prog X.w H' h') (hg : AllBare g') :
    Inv X pins σ H' { s with heap := h', gens := g', drawn := d', toks := t' } := by
  have neL : ∀ b o, X.s₀.heap.get? b = some o → b ≠ X.env.locals := fun b o e => Nat.ne_of_lt (Nat.lt_of_lt_of_le (Heap.lt_size e) I.ok.above)
  have neC : ∀ b o, X.s₀.heap.get? b = some o → b ∉ X.ex → b ∉ ch := fun b o e hx hb => by
    rcases (hch b hb).1 with z | z
    · exact hx z
    · exact absurd (Nat.lt_of_lt_of_le (Heap.lt_size e) z) (Nat.lt_irrefl _)
  have cellK : ∀ x c, X.env.cells.lookup x = some c → ∀ v, s.heap.IsCell c v → h'.IsCell c v := fun x c e v ⟨o, ho, hd⟩ => by
    have nch : c ∉ ch := fun z => (hch c z).2.2.1 x c e rfl
    by_cases hc : c ∈ X.fs
    · obtain ⟨sl, q⟩ := slot c o (I.cne x c e) hc nch ho (I.freeC x c e)
      exact ⟨_, q, hd⟩
    · exact ⟨o, keep c o (I.cne x c e) hc nch ho (I.freeC x c e), hd⟩
  refine ⟨I.ok, I.os, hg, ⟨fun b o e n hb hx => ?_, fun b o e n hb hx => ?_, fun b o e n hx => ?_, fun b o e hx => ?_, fun b xs e => tups b xs (I.base.tups b xs e), fun b o xs e => frzs b o xs (I.base.frzs b o xs e), fun b ps e => ?_⟩, ?_, fun x c e => ?_, ?_, fun x c e => ?_, fun p hp => ?_, hok, I.len⟩
  · exact keep b o (neL b o e) hb (neC b o e hx) (I.base.keep b o e n hb hx) (I.base.free b o e n hx)
  · obtain ⟨sl, e1⟩ := I.base.slot b o e n hb hx
    obtain ⟨sl', e2⟩ := slot b _ (neL b o e) hb (neC b o e hx) e1 (I.base.free b o e n hx)
    exact ⟨sl', e2⟩
  · obtain ⟨o', e1⟩ := I.base.there b o e hx
    exact free b o' (neC b o e hx) e1 (I.base.free b o e n hx)
  · obtain ⟨o', e1⟩ := I.base.there b o e hx
    exact there b o' (neC b o e hx) e1
  · obtain ⟨m1, e1⟩ := I.base.tbls b ps e
    obtain ⟨m2, e2⟩ := tbls b _ e1
    exact ⟨m1 ++ m2, by rw [e2, Array.append_assoc]⟩
  · obtain ⟨m, hn, hl⟩ := I.loc
    refine ⟨m, ns m hn, fun i x v e1 e2 e3 => ?_⟩
    obtain ⟨u, r, l⟩ := hl i x v e1 e2 e3
    refine ⟨u, r, ?_⟩
    rcases l with l | ⟨k, c, e, z⟩
    · exact .inl l
    · exact .inr ⟨k, c, e, cellK x c e _ z⟩
  · obtain ⟨v, z⟩ := I.cell x c e
    exact ⟨v, cellK x c e v z⟩
  · obtain ⟨m, ⟨o, _, _, ho, _⟩, _⟩ := I.loc
    exact free _ o (fun z => (hch _ z).2.1 rfl) ho I.free
  · obtain ⟨v, o, ho, hd⟩ := I.cell x c e
    exact free c o (fun z => (hch c z).2.2.1 x c e rfl) ho (I.freeC x c e)
  · obtain ⟨e, n, ne, nf, d⟩ := I.pin p hp
    have nch : p.1 ∉ ch := fun z => (hch p.1 z).2.2.2 p hp rfl
    exact ⟨keep p.1 p.2 ne nf nch e n, free p.1 p.2 nch e n, ne, nf, d⟩
/-- .. where the frame's own object is kept too -/
theorem Inv.un {t' : Nat} (I : Inv X pins σ H s) (u : Un X.fs [] H H' s.heap h') (hok : HOk X.prog X.w H' h') : Inv X pins σ H' { s with heap := h', toks := t' } := by
  obtain ⟨m, ⟨o, es, ep, ho, r⟩, _⟩ := id I.loc
  obtain ⟨sl, hL⟩ := u.any ho I.free (by simp)
  exact I.step (g' := s.gens) (d' := s.drawn) (ch := []) (fun _ z => nomatch z) (fun b o _ hb _ e n => u.keep b o e n hb (by simp)) (fun b o _ hb _ e n => u.slot b o e n hb (by simp)) (fun b o _ e n => u.free b o e n (by simp)) (fun b o _ e => u.there b o e (by simp)) u.tups u.frzs u.tbls (fun m' hm => by
    obtain ⟨o', es', ep', ho', r'⟩ := hm
    rw [ho] at ho'; cases ho'
    exact ⟨_, es', ep', hL, r'⟩) hok I.bare
/-- behind a call (or a comprehension's block): the slots of this frame may have changed too, the records at ch may have turned -/
theorem Inv.call {g' : Array GenState} {t' : Nat} {d' : Drawn} {ch : List Addr} (I : Inv X pins σ H s) (u : Un (frs X.stack) ch H H' s.heap h') (hok : HOk X.prog X.w H' h') (hg : AllBare g')
    (hch : ∀ b ∈ ch, (b ∈ X.ex ∨ X.s₀.heap.objs.size ≤ b) ∧ b ≠ X.env.locals ∧ (∀ x c, X.env.cells.lookup x = some c → c ≠ b) ∧ ∀ p ∈ X.pn ++ pins, p.1 ≠ b) :
    Inv X pins σ H' { s with heap := h', gens := g', drawn := d', toks := t' } := by
  obtain ⟨m, ⟨o, es, ep, ho, r⟩, _⟩ := id I.loc
  obtain ⟨sl, hL⟩ := u.any ho I.free fun z => (hch _ z).2.1 rfl
  exact I.step (ch := ch) hch (fun b o hL hb hc e n => u.keep b o e n (fun z => (List.mem_cons.mp (I.stkSub b z)).elim hL hb) hc) (fun b o _ _ hc e n => u.any e n hc) (fun b o hc e n => u.free b o e n hc) (fun b o hc e => u.there b o e hc) u.tups u.frzs u.tbls (fun m' hm => by
    obtain ⟨o', es', ep', ho', r'⟩ := hm
    rw [ho] at ho'; cases ho'
    exact ⟨_, es', ep', hL, r'⟩) hok hg
/-- an untracked record of ours (an iterator) has turned -/
theorem Inv.turned {t' : Nat} {it : Addr} (I : Inv X pins σ H s) (k : ∀ b o, b ≠ it → s.heap.get? b = some o → h'.get? b = some o) (hn : H it = none) (hL : it ≠ X.env.locals)
    (h1 : it ∈ X.ex ∨ X.s₀.heap.objs.size ≤ it) (h2 : ∀ x c, X.env.cells.lookup x = some c → c ≠ it) (h3 : ∀ p ∈ X.pn ++ pins, p.1 ≠ it) : Inv X pins σ H { s with heap := h', toks := t' } := by
  have nit : ∀ b u, H b = some u → b ≠ it := fun b u e z => by rw [z, hn] at e; cases e
  refine I.step (g' := s.gens) (d' := s.drawn) (ch := [it]) (fun b hb => ?_) (fun b o _ _ hc e _ => k b o (fun z => hc (by simp [z])) e) (fun b o _ _ hc e _ => ⟨o.slots, k b o (fun z => hc (by simp [z])) e⟩) (fun _ _ _ _ n => n)
    (fun b o hc e => ⟨o, k b o (fun z => hc (by simp [z])) e⟩) (fun _ _ e => e) (fun _ _ _ e => e) (fun b ps e => ⟨#[], by rw [e]; simp⟩) (fun m hm => ?_) (fun b u e => ?_) I.bare
  · have e : b = it := by simpa using hb
    subst e
    exact ⟨h1, hL, h2, h3⟩
  · obtain ⟨o, es, ep, ho, r⟩ := hm
    exact ⟨o, es, ep, k _ o (Ne.symm hL) ho, r⟩
  · refine (I.hok b u e).stay (fun c v hc q => k c v ?_ q) (fun _ q => q) fun _ _ q => q
    rcases hc with z | z
    · rw [z]; exact nit b u e
    · exact nit c _ z
theorem Inv.tok (I : Inv X pins σ H s) (t : Nat) : Inv X pins σ H { s with toks := t } := I.un (h' := s.heap) (t' := t) Un.refl I.hok
/-- all objects kept -/
theorem Inv.kept {t' : Nat} (I : Inv X pins σ H s) (k : ∀ b u, s.heap.get? b = some u → h'.get? b = some u) : Inv X pins σ H { s with heap := h', toks := t' } := I.un (Un.kept k) (I.hok.kept k)
/-- a new object laid and tracked -/
theorem Inv.laid {a : Addr} {o : HO} {t' : Nat} (I : Inv X pins σ H s) (k : ∀ b u, s.heap.get? b = some u → h'.get? b = some u) (hp : s.heap.objs.size ≤ a) (new : ObjOk X.prog X.w (upd H a o) h' a o) :
    Inv X pins σ (upd H a o) { s with heap := h', toks := t' } := I.un (Un.laid k hp (I.hok.fresh hp)) (I.hok.laid k hp new)
/-- an object written -/
theorem Inv.write {x e : Addr} {o : HO} {t' : Nat} (I : Inv X pins σ H s) (mu : Mut (H x)) (he : e = x ∨ H e = some (.own x)) (k : ∀ b u, b ≠ e → s.heap.get? b = some u → h'.get? b = some u) (heo : ∃ u, h'.get? e = some u)
    (new : ObjOk X.prog X.w (upd H x o) h' x o) : Inv X pins σ (upd H x o) { s with heap := h', toks := t' } := I.un (Un.write mu he k heo) (I.hok.write mu he k heo new)
theorem Inv.pins_of {pins' : List (Addr × Obj)} (I : Inv X pins σ H s) (h : ∀ p ∈ pins', s.heap.get? p.1 = some p.2 ∧ H p.1 = none ∧ p.1 ≠ X.env.locals ∧ p.1 ∉ X.fs ∧ ∀ v, p.2.data ≠ .cell v) : Inv X pins' σ H s :=
  ⟨I.ok, I.os, I.bare, I.base, I.loc, I.cell, I.free, I.freeC, fun p hp => (List.mem_append.mp hp).elim (fun z => I.pin p (List.mem_append_left _ z)) (h p), I.hok, I.len⟩

theorem nodup_ix {N : List Str} (hN : N.Nodup) {i j : Nat} {x : Str} (a : N[i]? = some x) (b : N[j]? = some x) : i = j := by
  obtain ⟨h1, e1⟩ := List.getElem?_eq_some_iff.mp a
  obtain ⟨h2, e2⟩ := List.getElem?_eq_some_iff.mp b
  exact (List.getElem_inj hN).mp (e1.trans e2.symm)

/-- a name is stored; what changed -/
theorem store_ok2 {M : Model} {A : Around} {E : Value → Shared → Prop} {i : Nat} {x : Str} {v : V} {u : Value} {Q : Unit → Shared → Prop} (I : Inv X pins σ H s) (hN : X.N.Nodup) (hi : X.N[i]? = some x) (hx : Loc X.env.scope x) (r : RelV v u)
    (h : ∀ s', Inv X pins (σ.set i (some v)) H s' → (∃ a, Heap.SameBut a s.heap s'.heap ∧ (a = X.env.locals ∨ X.env.cells.lookup x = some a)) → Q () s') (hf : X.fn x = true ∨ X.env.scope.names.lookup x = some .local := by first | exact .inl rfl | exact .inr rfl | assumption) : wpAny M A (storeName X.env x u) Q E s := by
  obtain ⟨m, hn, hl⟩ := id I.loc
  have hcls : (X.env.scope.kind == .class || (X.env.scope.kind == .module && X.env.locals != X.env.globals)) = false := by rw [I.ok.kind]; rfl
  have hiσ : i < σ.length := by rw [I.len]; exact (List.getElem?_eq_some_iff.mp hi).1
  have cne := I.cne
  have tracked : ∀ {a : Addr} {h' : Heap}, (∃ o, s.heap.get? a = some o ∧ H a = none) → Heap.SameBut a s.heap h' → HOk X.prog X.w H h' := fun {a h'} ha hs b ob e => by
    obtain ⟨_, _, hfree⟩ := ha
    refine (I.hok b ob e).stay (fun c w' hc q => (hs.2 c ?_).trans q) (fun _ q => q) fun _ _ q => q
    rintro rfl
    rcases hc with rfl | hc
    · rw [hfree] at e; cases e
    · rw [hfree] at hc; cases hc
  rcases hx with hk | hk
  · refine wpAny_storeName_local hk hn (fun h' hn' hs => ?_) hcls
    obtain ⟨oL, _, _, hoL, _⟩ := id hn
    refine h _ ⟨I.ok, I.os, I.bare, ⟨fun b o e n hb hx => ?_, fun b o e n hb hx => ?_, I.base.free, fun b o e hx => ?_, I.base.tups, I.base.frzs, I.base.tbls⟩, ⟨_, hn', fun j y v' e1 e2 e3 => ?_⟩, fun y c e => ?_, I.free, I.freeC, fun p hp => ?_, tracked ⟨oL, hoL, I.free⟩ hs, by simpa using I.len⟩ ⟨_, hs, .inl rfl⟩
    · exact (hs.2 b (Nat.ne_of_lt (Nat.lt_of_lt_of_le (Heap.lt_size e) I.ok.above))).trans (I.base.keep b o e n hb hx)
    · obtain ⟨sl, e1⟩ := I.base.slot b o e n hb hx
      exact ⟨sl, (hs.2 b (Nat.ne_of_lt (Nat.lt_of_lt_of_le (Heap.lt_size e) I.ok.above))).trans e1⟩
    · obtain ⟨o', e1⟩ := I.base.there b o e hx
      exact ⟨o', (hs.2 b (Nat.ne_of_lt (Nat.lt_of_lt_of_le (Heap.lt_size e) I.ok.above))).trans e1⟩
    · by_cases hj : j = i
      · subst hj
        rw [hi] at e1; cases e1
        rw [List.getElem?_set_self hiσ] at e2
        cases e2
        exact ⟨u, r, .inl ⟨hk, by simp⟩⟩
      · rw [List.getElem?_set_ne (Ne.symm hj)] at e2
        obtain ⟨u', r', q⟩ := hl j y v' e1 e2 e3
        refine ⟨u', r', ?_⟩
        rcases q with ⟨k, e⟩ | ⟨k, c, e, z⟩
        · refine .inl ⟨k, ?_⟩
          have : y ≠ x := fun e => hj (nodup_ix hN e1 (e ▸ hi))
          simp [this, e]
        · exact .inr ⟨k, c, e, z.sameBut hs (cne y c e)⟩
    · obtain ⟨w', z⟩ := I.cell y c e
      exact ⟨w', z.sameBut hs (cne y c e)⟩
    · obtain ⟨e, n, ne, nf, d⟩ := I.pin p hp
      exact ⟨(hs.2 p.1 ne).trans e, n, ne, nf, d⟩
  · have hfn : X.fn x = true := by
      rcases hf with z | z
      · exact z
      · rw [z] at hk; cases hk
    obtain ⟨c, hc⟩ := I.ok.has x (.inl hk)
    obtain ⟨w', z⟩ := I.cell x c hc
    refine wpAny_storeName_cell I.ok.kind hk hc z (fun h' hc' hs => ?_)
    obtain ⟨oc, hoc, hocd⟩ := id z
    refine h { s with heap := h' } ⟨I.ok, I.os, I.bare, ⟨fun b o e n hb hx => ?_, fun b o e n hb hx => ?_, I.base.free, fun b o e hx => ?_, I.base.tups, I.base.frzs, I.base.tbls⟩, ⟨m, hn.sameBut hs (Ne.symm (cne x c hc)), fun j y v' e1 e2 e3 => ?_⟩, fun y c' e => ?_, I.free, I.freeC, fun p hp => ?_, tracked ⟨oc, hoc, I.freeC x c hc⟩ hs, by simpa using I.len⟩ ⟨c, hs, .inr hc⟩
    · exact (hs.2 b (Nat.ne_of_lt (Nat.lt_of_lt_of_le (Heap.lt_size e) (I.ok.cab x c hfn hc)))).trans (I.base.keep b o e n hb hx)
    · obtain ⟨sl, e1⟩ := I.base.slot b o e n hb hx
      exact ⟨sl, (hs.2 b (Nat.ne_of_lt (Nat.lt_of_lt_of_le (Heap.lt_size e) (I.ok.cab x c hfn hc)))).trans e1⟩
    · obtain ⟨o', e1⟩ := I.base.there b o e hx
      exact ⟨o', (hs.2 b (Nat.ne_of_lt (Nat.lt_of_lt_of_le (Heap.lt_size e) (I.ok.cab x c hfn hc)))).trans e1⟩
    · by_cases hj : j = i
      · subst hj
        rw [hi] at e1; cases e1
        rw [List.getElem?_set_self hiσ] at e2
        cases e2
        exact ⟨u, r, .inr ⟨.inl hk, c, hc, hc'⟩⟩
      · rw [List.getElem?_set_ne (Ne.symm hj)] at e2
        obtain ⟨u', r', q⟩ := hl j y v' e1 e2 e3
        refine ⟨u', r', ?_⟩
        rcases q with q | ⟨k, c', e, z'⟩
        · exact .inl q
        · refine .inr ⟨k, c', e, z'.sameBut hs ?_⟩
          rintro rfl
          exact hj (nodup_ix hN e1 (I.ok.inj _ _ _ e hc ▸ hi))
    · by_cases hcc : c' = c
      · subst hcc; exact ⟨_, hc'⟩
      · obtain ⟨w2, z2⟩ := I.cell y c' e
        exact ⟨w2, z2.sameBut hs hcc⟩
    · obtain ⟨e, n, ne, nf, d⟩ := I.pin p hp
      refine ⟨(hs.2 p.1 ?_).trans e, n, ne, nf, d⟩
      intro q
      rw [q, hoc] at e
      have q' : oc = p.2 := Option.some.inj e
      exact d w' (by rw [← q']; exact hocd)
theorem store_ok {M : Model} {A : Around} {E : Value → Shared → Prop} {i : Nat} {x : Str} {v : V} {u : Value} {Q : Unit → Shared → Prop} (I : Inv X pins σ H s) (hN : X.N.Nodup) (hi : X.N[i]? = some x) (hx : Loc X.env.scope x) (r : RelV v u)
    (h : ∀ s', Inv X pins (σ.set i (some v)) H s' → Q () s') (hf : X.fn x = true ∨ X.env.scope.names.lookup x = some .local := by first | exact .inl rfl | exact .inr rfl | assumption) : wpAny M A (storeName X.env x u) Q E s :=
  store_ok2 I hN hi hx r (fun s' I' _ => h s' I') hf
/-- behind a call or a block, the state as it is -/
theorem Inv.call' {s' : Shared} {ch : List Addr} (I : Inv X pins σ H s) (ho : s'.os = s.os) (u : Un (frs X.stack) ch H H' s.heap s'.heap) (hok : HOk X.prog X.w H' s'.heap) (hg : AllBare s'.gens)
    (hch : ∀ b ∈ ch, (b ∈ X.ex ∨ X.s₀.heap.objs.size ≤ b) ∧ b ≠ X.env.locals ∧ (∀ x c, X.env.cells.lookup x = some c → c ≠ b) ∧ ∀ p ∈ X.pn ++ pins, p.1 ≠ b) : Inv X pins σ H' s' := by
  obtain ⟨h', g', d', t', o'⟩ := s'
  have e : o' = s.os := ho
  subst e
  exact I.call (g' := g') (t' := t') (d' := d') u hok hg hch
end

/-! ### the judgements -/
/-- an exception: its class, its own dict's address (where it has one), the abstract heap behind it -/
noncomputable abbrev XK := Value → Option Addr → Hp → Prop
noncomputable abbrev St := List (Option V)
noncomputable abbrev VK := V → Hp → Prop
/-- an expression's reading; a test's; an argument list's -/
noncomputable abbrev TE := St → Hp → VK → Prop
noncomputable abbrev TT := St → Hp → (Bool → Hp → Prop) → Prop
noncomputable abbrev TA := St → Hp → (List V → Hp → Prop) → Prop
/-- what is wanted behind a statement -/
structure Ends where
  nx : St → Hp → Prop
  rt : VK
  bk : St → Hp → Prop := fun _ _ => False
  ct : St → Hp → Prop := fun _ _ => False
noncomputable abbrev TS := Ends → St → Hp → Prop

noncomputable def EP (X : Cx) (pins : List (Addr × Obj)) (σ : St) (Q : VK) (u : Value) (s' : Shared) : Prop := ∃ v H', Inv X pins σ H' s' ∧ RelV v u ∧ Q v H'
noncomputable def TP (X : Cx) (pins : List (Addr × Obj)) (σ : St) (Q : Bool → Hp → Prop) (b : Bool) (s' : Shared) : Prop := ∃ H', Inv X pins σ H' s' ∧ Q b H'
noncomputable def AP (X : Cx) (pins : List (Addr × Obj)) (σ : St) (Q : List V → Hp → Prop) (us : List Value) (s' : Shared) : Prop := ∃ vs H', Inv X pins σ H' s' ∧ Vals vs us ∧ Q vs H'
noncomputable def SP (X : Cx) (pins : List (Addr × Obj)) (D : Ends) (f : Flow) (s' : Shared) : Prop :=
  match f with
  | .next => ∃ σ' H', Inv X pins σ' H' s' ∧ D.nx σ' H'
  | .brk => ∃ σ' H', Inv X pins σ' H' s' ∧ D.bk σ' H'
  | .cont => ∃ σ' H', Inv X pins σ' H' s' ∧ D.ct σ' H'
  | .ret u => ∃ v σ' H', Inv X pins σ' H' s' ∧ RelV v u ∧ D.rt v H'

noncomputable def PE (X : Cx) (e : Expr) (t : TE) : Prop :=
  ∀ (pins : List (Addr × Obj)) (s : Shared) (σ : St) (H : Hp) (Q : VK), Inv X pins σ H s → t σ H Q → wpAny (model X.prog X.w) X.A (eval e X.env) (EP X pins σ Q) X.xe s
noncomputable def PT (X : Cx) (e : Expr) (t : TT) : Prop :=
  ∀ (pins : List (Addr × Obj)) (s : Shared) (σ : St) (H : Hp) (Q : Bool → Hp → Prop), Inv X pins σ H s → t σ H Q → wpAny (model X.prog X.w) X.A (isTrue e X.env (eval e X.env)) (TP X pins σ Q) X.xe s
/-- a test whatever its 'whole' is (and, or) -/
noncomputable def PW (X : Cx) (e : Expr) (t : TT) : Prop :=
  ∀ (whole : Sem Value) (pins : List (Addr × Obj)) (s : Shared) (σ : St) (H : Hp) (Q : Bool → Hp → Prop), Inv X pins σ H s → t σ H Q → wpAny (model X.prog X.w) X.A (isTrue e X.env whole) (TP X pins σ Q) X.xe s
theorem PW.pt {X : Cx} {e : Expr} {t : TT} (h : PW X e t) : PT X e t := h _
/-- an argument list (no star), from the left -/
noncomputable def PA (X : Cx) (es : List Expr) (t : TA) : Prop :=
  ∀ (pos : Pos) (pins : List (Addr × Obj)) (s : Shared) (σ : St) (H : Hp) (Q : List V → Hp → Prop), Inv X pins σ H s → t σ H Q → wpAny (model X.prog X.w) X.A (spliced (backTo pos (starEach es X.env))) (AP X pins σ Q) X.xe s
noncomputable def PS (X : Cx) (st : Stmt) (t : TS) : Prop :=
  ∀ (pins : List (Addr × Obj)) (s : Shared) (σ : St) (H : Hp) (D : Ends), Inv X pins σ H s → t D σ H → wpAny (model X.prog X.w) X.A (exec st X.env) (SP X pins D) X.xe s
noncomputable def PSs (X : Cx) (st : List Stmt) (t : TS) : Prop :=
  ∀ (pins : List (Addr × Obj)) (s : Shared) (σ : St) (H : Hp) (D : Ends), Inv X pins σ H s → t D σ H → wpAny (model X.prog X.w) X.A (execs st X.env) (SP X pins D) X.xe s
/-- weaken the end -/
theorem thn {α : Type} {t : Sem α} {Q Q' : α → Shared → Prop} {M : Model} {A : Around} {E : Value → Shared → Prop} {s : Shared} (h : wpAny M A t Q E s) (hQ : ∀ a s, Q a s → Q' a s) : wpAny M A t Q' E s := wpAny_mono h hQ fun _ _ x => x
end L2

namespace L2
open PySem PySem.Spec PyProof.Rows
section
variable {X : Cx}

/-! ### names and constants -/
noncomputable def tVar (i : Nat) : TE := fun σ H Q => ∃ v, σ[i]? = some (some v) ∧ Q v H
noncomputable def tC (v : V) : TE := fun _ H Q => Q v H
theorem pe_var {i : Nat} {x : Str} {pos : Pos} (hN : X.N[i]? = some x) (hv : Vis X.env.scope x) (hd : (x == ("__debug__" : Str)) = false := by decide) (hcd : (x == ("__classdict__" : Str)) = false := by decide) : PE X (.Name x pos) (tVar i) := by
  intro pins s σ H Q I h
  obtain ⟨v, e, h⟩ := h
  obtain ⟨m, hn, hl⟩ := I.loc
  obtain ⟨u, r, l⟩ := hl i x v hN e hv
  have fin : EP X pins σ Q u s := ⟨v, H, I, r, h⟩
  rcases l with ⟨hk, hm⟩ | ⟨hk, c, hc, hcell⟩
  · exact wpAny_Name (wpAny_loadName_local I.ok.kind hk hn hm fin) hd
  · rcases hk with hk | hk
    · exact wpAny_Name (wpAny_loadName_cell I.ok.kind hk hc hcell fin) hd
    · exact wpAny_Name (wpAny_loadName_free I.ok.kind hk hc hcell fin hcd) hd
theorem pe_int {i j pos} : PE X (.Constant (.int i) j pos) (tC (.int i)) := fun _ _ _ H _ I h => wpAny_Constant_int ⟨.int i, H, I.tok _, ⟨_, rfl⟩, h⟩
theorem pe_bl {b j pos} : PE X (.Constant (.bool b) j pos) (tC (.bl b)) := fun _ _ _ H _ I h => Constant_bool ⟨.bl b, H, I, rfl, h⟩
theorem pe_non {j pos} : PE X (.Constant .none j pos) (tC .non) := fun _ _ _ H _ I h => Constant_none ⟨.non, H, I, rfl, h⟩
theorem pe_str {x j pos} : PE X (.Constant (.str x) j pos) (tC (.str x)) := fun _ _ _ H _ I h => Calls.Constant_str ⟨.str x, H, I.tok _, ⟨_, rfl⟩, h⟩

/-- a global name of the def -/
noncomputable def Gl (X : Cx) (x : Str) : Prop := X.env.kindOf x = some .globalImplicit
theorem ld_glob {E : Value → Shared → Prop} {pins : List (Addr × Obj)} {s : Shared} {σ : St} {H : Hp} {x : Str} {u : Value} {pos : Pos} {Q : Value → Shared → Prop} (I : Inv X pins σ H s) (hg : Gl X x) (hm : X.mg x = some u) (h : Q u s)
    (hd : (x == ("__debug__" : Str)) = false := by decide) : wpAny (model X.prog X.w) X.A (eval (.Name x pos) X.env) Q E s :=
  Calls.Name_function_global I.ok.kind hg (Calls.loadGlobal_global (by rw [I.ok.glob]; exact I.mod.glob.keeps I.bk) hm h) hd
theorem ld_blt {E : Value → Shared → Prop} {pins : List (Addr × Obj)} {s : Shared} {σ : St} {H : Hp} {x : Str} {u : Value} {pos : Pos} {Q : Value → Shared → Prop} (I : Inv X pins σ H s) (hg : Gl X x) (hm : X.mg x = none) (hv : bootBuiltins x = some u) (h : Q u s)
    (hn : x ≠ "__name__" := by decide) (hd : (x == ("__debug__" : Str)) = false := by decide) : wpAny (model X.prog X.w) X.A (eval (.Name x pos) X.env) Q E s := by
  obtain ⟨mb, h1, h2⟩ := I.mod.blt
  exact Calls.Name_function_global I.ok.kind hg (Calls.loadGlobal_builtin (by rw [I.ok.glob]; exact I.mod.glob.keeps I.bk) hm (by rw [I.ok.blt]; exact h1.keeps I.bk) ((h2 x hn).trans hv) h) hd
/-- a module's constant, a class, a function, as a value -/
theorem pe_glob {x : Str} {v : V} {u : Value} {pos : Pos} (hg : Gl X x) (hm : X.mg x = some u) (r : RelV v u) (hd : (x == ("__debug__" : Str)) = false := by decide) : PE X (.Name x pos) (tC v) :=
  fun _ _ _ H _ I h => ld_glob I hg hm ⟨v, H, I, r, h⟩ hd
theorem pe_bltn {x : Str} {v : V} {u : Value} {pos : Pos} (hg : Gl X x) (hm : X.mg x = none) (hv : bootBuiltins x = some u) (r : RelV v u) (hn : x ≠ "__name__" := by decide) (hd : (x == ("__debug__" : Str)) = false := by decide) : PE X (.Name x pos) (tC v) :=
  fun _ _ _ H _ I h => ld_blt I hg hm hv ⟨v, H, I, r, h⟩ hn hd

/-! ### arithmetic -/
variable {a b : Expr} {ta tb : TE} {pos : Pos}
/-! ### comparisons -/
noncomputable def PC (X : Cx) (op : CmpOp) (a b : Expr) (t : TE) : Prop :=
  ∀ (pins : List (Addr × Obj)) (s : Shared) (σ : St) (H : Hp) (Q : VK), Inv X pins σ H s → t σ H Q →
    wpAny (model X.prog X.w) X.A (eval a X.env) (fun v s₁ => wpAny (model X.prog X.w) X.A (eval b X.env) (fun u s₂ => wpAny (model X.prog X.w) X.A (compareOp op v u) (EP X pins σ Q) X.xe s₂) X.xe s₁) X.xe s
/-- a comparison as a value, as a test -/
noncomputable def tB (t : TE) : TT := fun σ H Q => t σ H fun x H1 => ∃ c, x = .bl c ∧ Q c H1
theorem pt_cmp {op : CmpOp} {t : TE} (h : PC X op a b t) (h1 : behindInMarks op b = false := by first | exact nobehind _ (by decide) (by decide) | rfl) : PT X (.Compare a [op] [b] pos) (tB t) := by
  intro pins s σ H Q I hw
  refine wpAny_isTrue_Compare1 (thn (h pins s σ H _ I hw) fun v s1 h1 => thn h1 fun u s2 h2 => thn h2 fun c s3 ⟨x, H1, I1, r1, q1⟩ => ?_) h1
  obtain ⟨d, rfl, q⟩ := q1
  cases r1
  exact wpAny_truthy_bool ⟨H1, I1, q⟩
/-- an expression whose value is a bool, as a test -/
theorem pt_val {e : Expr} {t : TE} (h : PE X e t) (he : ∀ whole, isTrue e X.env whole = (do let v ← whole; standAt e.pos; holding [v] (truthy v)) := by intro _; rfl) : PT X e (tB t) := by
  intro pins s σ H Q I hw
  refine isTrue_plain (thn (h pins s σ H _ I hw) fun v s1 ⟨x, H1, I1, r1, q1⟩ => ?_) (he _)
  obtain ⟨d, rfl, q⟩ := q1
  cases r1
  exact wpAny_truthy_bool ⟨H1, I1, q⟩

/-! ### and, or, not -/
variable {tA tB' : TT} {rest : List Expr}
noncomputable def tAnd (t u : TT) : TT := fun σ H Q => t σ H fun c H1 => if c = true then u σ H1 Q else Q false H1
noncomputable def tOr (t u : TT) : TT := fun σ H Q => t σ H fun c H1 => if c = true then Q true H1 else u σ H1 Q
noncomputable def tNot (t : TT) : TT := fun σ H Q => t σ H fun c H1 => Q (!c) H1
theorem pw_and1 (ha : PT X a tA) : PW X (.BoolOp .And [a] pos) tA := by
  intro wh pins s σ H Q I h
  refine isTrue_and (thn (ha pins s σ H Q I h) fun c s1 e => ?_)
  cases c with
  | true => exact isTrue_and_nil e
  | false => exact e
theorem pw_or1 (ha : PT X a tA) : PW X (.BoolOp .Or [a] pos) tA := by
  intro wh pins s σ H Q I h
  refine isTrue_or (thn (ha pins s σ H Q I h) fun c s1 e => ?_)
  cases c with
  | false => exact isTrue_or_nil e
  | true => exact e
theorem pw_and (ha : PT X a tA) (hb : PW X (.BoolOp .And (b :: rest) pos) tB') : PW X (.BoolOp .And (a :: b :: rest) pos) (tAnd tA tB') := by
  intro wh pins s σ H Q I h
  refine isTrue_and (thn (ha pins s σ H _ I h) fun c s1 ⟨H1, I1, q1⟩ => ?_)
  cases c with
  | true => exact hb wh pins s1 σ H1 Q I1 q1
  | false => exact ⟨H1, I1, q1⟩
theorem pw_or (ha : PT X a tA) (hb : PW X (.BoolOp .Or (b :: rest) pos) tB') : PW X (.BoolOp .Or (a :: b :: rest) pos) (tOr tA tB') := by
  intro wh pins s σ H Q I h
  refine isTrue_or (thn (ha pins s σ H _ I h) fun c s1 ⟨H1, I1, q1⟩ => ?_)
  cases c with
  | true => exact ⟨H1, I1, q1⟩
  | false => exact hb wh pins s1 σ H1 Q I1 q1
theorem pt_not (ha : PT X a tA) : PT X (.UnaryOp .Not a pos) (tNot tA) := by
  intro pins s σ H Q I h
  exact isTrue_not (ha pins s σ H (fun c H1 => Q (!c) H1) I h)
/-- .. as values (bools) -/
noncomputable def tAndV (ta tb : TE) : TE := fun σ H Q => ta σ H fun x H1 => ∃ c, x = .bl c ∧ if c = true then tb σ H1 Q else Q (.bl false) H1
noncomputable def tNotV (ta : TE) : TE := fun σ H Q => ta σ H fun x H1 => ∃ c, x = .bl c ∧ Q (.bl (!c)) H1
theorem pe_one {op} {t : TE} (h : PE X a t) : PE X (.BoolOp op [a] pos) t := fun pins s σ H Q I hw => BoolOp_one (h pins s σ H Q I hw)
theorem pe_and (ha : PE X a ta) (hb : PE X (.BoolOp .And (b :: rest) pos) tb) : PE X (.BoolOp .And (a :: b :: rest) pos) (tAndV ta tb) := by
  intro pins s σ H Q I h
  refine BoolOp_and (thn (ha pins s σ H _ I h) fun v s1 ⟨x, H1, I1, r1, q1⟩ => ?_)
  obtain ⟨c, rfl, q1⟩ := q1
  cases r1
  refine wpAny_truthy_bool ?_
  cases c with
  | true => exact hb pins s1 σ H1 Q I1 q1
  | false => exact ⟨.bl false, H1, I1, rfl, q1⟩
theorem pe_not (ha : PE X a ta) : PE X (.UnaryOp .Not a pos) (tNotV ta) := by
  intro pins s σ H Q I h
  refine UnaryOp_ (thn (ha pins s σ H _ I h) fun v s1 ⟨x, H1, I1, r1, q1⟩ => ?_)
  obtain ⟨c, rfl, q1⟩ := q1
  cases r1
  exact not_of (wpAny_truthy_bool ⟨.bl (!c), H1, I1, rfl, q1⟩)
end
end L2

namespace L2
open PySem PySem.Spec PyProof.Rows

/-! ### a list, a tuple that is read: tracked, frozen, or an object of the module -/
noncomputable def SqL (K : PySem.W.Frag) (H : Hp) (a : Addr) (xs : List V) : Prop :=
  Rd H a (.lst xs) ∨
    ∃ (o : Obj) (its : Array Value) (n : Nat), K.lookup a = some o ∧ o.cls = .type "list" ∧ o.dict = none ∧ o.data = .seq its n ∧ its.size ≤ sizeLine ∧ Vals xs its.toList
noncomputable def SqT (K : PySem.W.Frag) (H : Hp) (a : Addr) (xs : List V) : Prop :=
  Rd H a (.tup xs) ∨
    ∃ (o : Obj) (its : Array Value) (n : Nat), K.lookup a = some o ∧ o.cls = .type "tuple" ∧ o.data = .seq its n ∧ its.size ≤ sizeLine ∧ Vals xs its.toList
noncomputable def absV : Value → Option V
  | .none => some .non
  | .bool b => some (.bl b)
  | .int i _ => some (.int i)
  | .str x _ => some (.str x)
  | .bytes b _ => some (.byt b)
  | .float b _ => some (.flt b)
  | .ref a => some (.ref a)
  | .type n => some (.ty n)
  | _ => none
theorem RelV.abs {x : V} {u : Value} (r : RelV x u) : absV u = some x := by
  cases x with
  | non => cases r; rfl
  | bl _ => cases r; rfl
  | int _ => obtain ⟨t, rfl⟩ := r; rfl
  | str _ => obtain ⟨t, rfl⟩ := r; rfl
  | byt _ => obtain ⟨t, rfl⟩ := r; rfl
  | flt _ => obtain ⟨t, rfl⟩ := r; rfl
  | ref _ => cases r; rfl
  | ty _ => cases r; rfl
theorem RelV.inj {x y : V} {u : Value} (r : RelV x u) (q : RelV y u) : x = y := Option.some.inj (r.abs.symm.trans q.abs)
theorem Vals.inj : ∀ {xs ys : List V} {us : List Value}, Vals xs us → Vals ys us → xs = ys
  | _, _, _, .nil, .nil => rfl
  | _, _, _, .cons r t, .cons r' t' => by rw [r.inj r', Vals.inj t t']
section
variable {X : Cx} {pins : List (Addr × Obj)} {σ : St} {H : Hp} {s : Shared} {a : Addr} {xs ys : List V}
theorem SqL.of {K : PySem.W.Frag} (h : H a = some (.lst xs)) : SqL K H a xs := .inl (.inl h)
theorem SqT.of {K : PySem.W.Frag} (h : H a = some (.tup xs)) : SqT K H a xs := .inl (.inl h)
theorem Inv.list (I : Inv X pins σ H s) (h : SqL X.K H a xs) : ∃ its : List Value, Vals xs its ∧ PlainL s.heap a its.toArray ∧ xs.length ≤ sizeLine := by
  rcases h with h | ⟨o, its, n, hk, hc, hd, hs, hz, r⟩
  · obtain ⟨z, its, n, r, e⟩ := h.ok I.hok
    exact ⟨its, r, ⟨_, n, e, rfl, rfl, rfl⟩, z⟩
  · refine ⟨its.toList, r, ⟨o, n, I.kIn a o hk, hc, hd, by simpa using hs⟩, ?_⟩
    have e := r.length
    simp only [Array.length_toList] at e
    omega
theorem Inv.tuple (I : Inv X pins σ H s) (h : SqT X.K H a xs) : ∃ its : List Value, Vals xs its ∧ IsTup s.heap a its.toArray ∧ xs.length ≤ sizeLine := by
  rcases h with h | ⟨o, its, n, hk, hc, hs, hz, r⟩
  · obtain ⟨z, its, r, p⟩ := h.ok I.hok
    exact ⟨its, r, p, z⟩
  · refine ⟨its.toList, r, ⟨o, I.kIn a o hk, hc, n, by simpa using hs⟩, ?_⟩
    have e := r.length
    simp only [Array.length_toList] at e
    omega
theorem Inv.list_inj (I : Inv X pins σ H s) (h : SqL X.K H a xs) (h' : SqL X.K H a ys) : xs = ys := by
  obtain ⟨its, r, ⟨o, n, e, _, _, d⟩, _⟩ := I.list h
  obtain ⟨its', r', ⟨o', n', e', _, _, d'⟩, _⟩ := I.list h'
  rw [e] at e'; cases e'
  rw [d] at d'
  injection d' with d1 _
  have : its = its' := by simpa using congrArg Array.toList d1
  subst this
  exact r.inj r'
theorem Inv.tuple_inj (I : Inv X pins σ H s) (h : SqT X.K H a xs) (h' : SqT X.K H a ys) : xs = ys := by
  obtain ⟨its, r, ⟨o, e, _, n, d⟩, _⟩ := I.tuple h
  obtain ⟨its', r', ⟨o', e', _, n', d'⟩, _⟩ := I.tuple h'
  rw [e] at e'; cases e'
  rw [d] at d'
  injection d' with d1 _
  have : its = its' := by simpa using congrArg Array.toList d1
  subst this
  exact r.inj r'
end

/-! ### another wish about exceptions -/
noncomputable abbrev Cx.wish (X : Cx) (E : Value → Shared → Prop) : Cx := { X with xe := E }
/-- no exception leaves -/
noncomputable abbrev Cx.nox (X : Cx) : Cx := X.wish fun _ _ => False
theorem Cx.Ok.wish {X : Cx} (ok : X.Ok) (E : Value → Shared → Prop) : (X.wish E).Ok :=
  ⟨ok.mod, ok.kind, ok.glob, ok.blt, ok.above, ok.inj, ok.has, ok.cab, ok.hd, ok.frames, ok.stk, ok.exf, ok.bs, ok.bsz, ok.noex, ok.exfs, ok.funs, ok.frf⟩
theorem Cx.Ok.unwish {X : Cx} {E : Value → Shared → Prop} (ok : (X.wish E).Ok) : X.Ok :=
  ⟨ok.mod, ok.kind, ok.glob, ok.blt, ok.above, ok.inj, ok.has, ok.cab, ok.hd, ok.frames, ok.stk, ok.exf, ok.bs, ok.bsz, ok.noex, ok.exfs, ok.funs, ok.frf⟩
section
variable {X : Cx} {pins : List (Addr × Obj)} {σ : St} {H : Hp} {s : Shared} {E : Value → Shared → Prop}
theorem Inv.wish (I : Inv X pins σ H s) (E : Value → Shared → Prop) : Inv (X.wish E) pins σ H s := ⟨I.ok.wish E, I.os, I.bare, I.base, I.loc, I.cell, I.free, I.freeC, I.pin, I.hok, I.len⟩
theorem Inv.unwish (I : Inv (X.wish E) pins σ H s) : Inv X pins σ H s := ⟨I.ok.unwish, I.os, I.bare, I.base, I.loc, I.cell, I.free, I.freeC, I.pin, I.hok, I.len⟩
theorem SP.unwish {D : Ends} {f : Flow} {s' : Shared} (h : SP (X.wish E) pins D f s') : SP X pins D f s' := by
  cases f with
  | next => obtain ⟨σ', H', I, q⟩ := h; exact ⟨σ', H', I.unwish, q⟩
  | brk => obtain ⟨σ', H', I, q⟩ := h; exact ⟨σ', H', I.unwish, q⟩
  | cont => obtain ⟨σ', H', I, q⟩ := h; exact ⟨σ', H', I.unwish, q⟩
  | ret u => obtain ⟨v, σ', H', I, r, q⟩ := h; exact ⟨v, σ', H', I.unwish, r, q⟩
theorem PSs.nox {st : List Stmt} {t : TS} (h : PSs X.nox st t) : PSs X st t := fun pins s σ H D I hw =>
  wpAny_mono (h pins s σ H D (I.wish _) hw) (fun _ _ q => q.unwish) fun _ _ z => False.elim z
end

/-! ### blocks and small statements -/
section
variable {X : Cx} {st : Stmt} {rest : List Stmt} {t u : TS} {e : Expr} {te : TE} {pos : Pos}
noncomputable def tNext : TS := fun D σ H => D.nx σ H
noncomputable def tSeq (t u : TS) : TS := fun D σ H => t { D with nx := u D } σ H
theorem pss_nil : PSs X [] tNext := fun _ _ σ H _ I h => wpAny_execs_nil ⟨σ, H, I, h⟩
theorem pss_cons (h1 : PS X st t) (h2 : PSs X rest u) : PSs X (st :: rest) (tSeq t u) := by
  intro pins s σ H D I h
  refine wpAny_execs_cons (thn (h1 pins s σ H { D with nx := u D } I h) fun f s1 q => ?_)
  cases f with
  | next =>
    obtain ⟨σ', H', I', q⟩ := q
    exact h2 pins s1 σ' H' D I' q
  | ret v => exact q
  | brk => exact q
  | cont => exact q
theorem pss_one (h1 : PS X st t) : PSs X [st] t := by
  intro pins s σ H D I h
  refine wpAny_execs_cons (thn (h1 pins s σ H D I h) fun f s1 q => ?_)
  cases f with
  | next => exact wpAny_execs_nil q
  | ret v => exact q
  | brk => exact q
  | cont => exact q
noncomputable def tBreak : TS := fun D σ H => D.bk σ H
theorem ps_break : PS X (.Break pos) tBreak := fun _ _ σ H _ I h => wpAny_Break ⟨σ, H, I, h⟩
/-- in a def's body nothing is shown -/
theorem Inv.quiet {pins : List (Addr × Obj)} {σ : St} {H : Hp} {s : Shared} (I : Inv X pins σ H s) : interactive X.env = false := by simp [interactive, I.ok.kind]
/-- an expression whose value is dropped -/
noncomputable def tDrop (te : TE) : TS := fun D σ H => te σ H fun _ H1 => D.nx σ H1
theorem ps_expr (he : PE X e te) (hs : swapsWith e none pos.line X.env = pure false := by rfl) : PS X (.Expr e pos) (tDrop te) := by
  intro pins s σ H D I h
  exact wpAny_Expr_any (thn (he pins s σ H _ I h) fun v s1 ⟨x, H1, I1, r1, q1⟩ => ⟨σ, H1, I1, q1⟩) I.quiet hs
noncomputable def tRet (te : TE) : TS := fun D σ H => te σ H D.rt
theorem ps_ret (he : PE X e te) : PS X (.Return (some e) pos) (tRet te) := by
  intro pins s σ H D I h
  exact wpAny_Return_some (thn (he pins s σ H _ I h) fun v s1 ⟨x, H1, I1, r1, q1⟩ => ⟨x, σ, H1, I1, r1, q1⟩)
noncomputable def tIfS (c : TT) (t u : TS) : TS := fun D σ H => c σ H fun b H1 => if b = true then t D σ H1 else u D σ H1
theorem ps_if {c : Expr} {a b : List Stmt} {tc : TT} (hc : PT X c tc) (ha : PSs X a t) (hb : PSs X b u) : PS X (.If c a b pos) (tIfS tc t u) := by
  intro pins s σ H D I h
  refine wpAny_If (thn (hc pins s σ H _ I h) fun d s1 ⟨H1, I1, q1⟩ => ?_)
  cases d with
  | true => exact ha pins s1 σ H1 D I1 q1
  | false => exact hb pins s1 σ H1 D I1 q1
end

/-! ### targets -/
noncomputable abbrev TG := V → St → Hp → (St → Hp → Prop) → Prop
noncomputable abbrev TGs := List V → St → Hp → (St → Hp → Prop) → Prop
noncomputable def PG (X : Cx) (target : Expr) (t : TG) : Prop :=
  ∀ (pins : List (Addr × Obj)) (s : Shared) (σ : St) (H : Hp) (v : V) (u : Value) (Q : St → Hp → Prop), Inv X pins σ H s → RelV v u → t v σ H Q →
    wpAny (model X.prog X.w) X.A (assign target X.env u) (fun _ s' => ∃ σ' H', Inv X pins σ' H' s' ∧ Q σ' H') X.xe s
/-- several targets, one after another -/
noncomputable def PGs (X : Cx) (ts : List Expr) (t : TGs) : Prop :=
  ∀ (pins : List (Addr × Obj)) (s : Shared) (σ : St) (H : Hp) (vs : List V) (us : List Value) (Q : St → Hp → Prop), Inv X pins σ H s → Vals vs us → t vs σ H Q →
    wpAny (model X.prog X.w) X.A (assignInOrder ((assignEach ts X.env).map (·.2)) us) (fun _ s' => ∃ σ' H', Inv X pins σ' H' s' ∧ Q σ' H') X.xe s
/-- a op= b, by values -/
noncomputable abbrev TIp := V → V → Hp → VK → Prop
noncomputable def PIp (X : Cx) (op : Operator) (t : TIp) : Prop :=
  ∀ (pins : List (Addr × Obj)) (s : Shared) (σ : St) (H : Hp) (x y : V) (v u : Value) (Q : VK), Inv X pins σ H s → RelV x v → RelV y u → t x y H Q →
    wpAny (model X.prog X.w) X.A (inplaceOp op v u) (EP X pins σ Q) X.xe s
section
variable {X : Cx} {pos : Pos}
noncomputable def gName (i : Nat) : TG := fun v σ H Q => Q (σ.set i (some v)) H
theorem pg_name {i : Nat} {x : Str} (hN : X.N.Nodup) (hi : X.N[i]? = some x) (hx : Loc X.env.scope x) (hf : X.fn x = true ∨ X.env.scope.names.lookup x = some .local := by first | exact .inl rfl | exact .inr rfl | assumption) : PG X (.Name x pos) (gName i) := by
  intro pins s σ H v u Q I r h
  exact wpAny_assign_Name (store_ok I hN hi hx r (fun s' I' => ⟨_, H, I', h⟩) hf)
noncomputable def gNil : TGs := fun vs σ H Q => vs = [] ∧ Q σ H
noncomputable def gCons (t : TG) (u : TGs) : TGs := fun vs σ H Q => ∃ v r, vs = v :: r ∧ t v σ H fun σ' H' => u r σ' H' Q
theorem pgs_nil : PGs X [] gNil := by
  intro pins s σ H vs us Q I r h
  obtain ⟨e, h⟩ := h
  subst e
  cases r
  exact assignInOrder_nil ⟨σ, H, I, h⟩
theorem pgs_cons {e : Expr} {es : List Expr} {t : TG} {u : TGs} (h1 : PG X e t) (h2 : PGs X es u)
    (hs : (assignEach (e :: es) X.env).map (·.2) = assign e X.env :: (assignEach es X.env).map (·.2) := by rfl) : PGs X (e :: es) (gCons t u) := by
  intro pins s σ H vs us Q I r h
  obtain ⟨v, vr, e1, h⟩ := h
  subst e1
  cases r with
  | cons r rr =>
    rw [hs]
    refine assignInOrder_cons (thn (h1 pins s σ H _ _ _ I r h) fun _ s1 ⟨σ1, H1, I1, q1⟩ => ?_)
    exact h2 pins s1 σ1 H1 _ _ Q I1 rr q1
/-- (a, b, ..) = a tuple of that length -/
noncomputable def gTup (K : PySem.W.Frag) (n : Nat) (t : TGs) : TG := fun v σ H Q => ∃ a xs, v = .ref a ∧ SqT K H a xs ∧ xs.length = n ∧ t xs σ H Q
theorem pg_tup {es : List Expr} {k : Nat} {t : TGs} {n : Nat} (hc : X.calm = true) (h : PGs X es t)
    (hn : (assignEach es X.env).length = n := by rfl) (hst : (assignEach es X.env).findIdx? (·.1) = none := by rfl) : PG X (.Tuple es k pos) (gTup X.K n t) := by
  intro pins s σ H v u Q I r hw
  obtain ⟨a, xs, e1, hq, hl, hw⟩ := hw
  subst e1
  cases r
  obtain ⟨its, rv, ht, hz⟩ := I.tuple hq
  refine assign_Tuple_tuple (I.ok.hd hc) ht (by simp [hn, ← hl, rv.length]) hst fun h' hx => ?_
  have I1 : Inv X pins σ H { s with heap := h' } := I.kept (t' := s.toks) fun b o e => hx b o (Nat.ne_of_lt (Heap.lt_size e)) e
  exact h pins _ σ H xs _ Q I1 (by simpa using rv) hw
/-- target = value -/
noncomputable def tAsg (te : TE) (g : TG) : TS := fun D σ H => te σ H fun x H1 => g x σ H1 D.nx
theorem ps_asg {tg e : Expr} {te : TE} {g : TG} (he : PE X e te) (hg : PG X tg g) (hs : swapsWithSole [tg] e pos.line X.env = pure false := by rfl) (hw : swappedStores [tg] e X.env = pure none := by rfl)
    (h1 : (assignEach [tg] X.env).map (·.2) = [assign tg X.env] := by rfl) : PS X (.Assign [tg] e pos) (tAsg te g) := by
  intro pins s σ H D I h
  refine wpAny_Assign_stores (thn (he pins s σ H _ I h) fun v s1 ⟨x, H1, I1, r1, q1⟩ => ?_) hs hw
  rw [h1]
  exact thn (hg pins s1 σ H1 x v _ I1 r1 q1) fun _ s2 q => q
/-- name = value -/
theorem ps_set {i : Nat} {x : Str} {e : Expr} {te : TE} {pos' : Pos} (hN : X.N.Nodup) (hi : X.N[i]? = some x) (hx : Loc X.env.scope x) (he : PE X e te) (hs : swapsWith e (some (.Name x pos')) pos.line X.env = pure false := by rfl) (hf : X.fn x = true ∨ X.env.scope.names.lookup x = some .local := by first | exact .inl rfl | exact .inr rfl | assumption) :
    PS X (.Assign [.Name x pos'] e pos) (tAsg te (gName i)) := by
  intro pins s σ H D I h
  refine wpAny_Assign_Name (thn (he pins s σ H _ I h) fun v s1 ⟨y, H1, I1, r1, q1⟩ => ?_) hs
  exact store_ok I1 hN hi hx r1 (fun s2 I2 => ⟨_, H1, I2, q1⟩) hf
/-- name op= e -/
noncomputable def tAug (i : Nat) (te : TE) (ti : TIp) : TS := fun D σ H => ∃ x, σ[i]? = some (some x) ∧ te σ H fun y H1 => ti x y H1 fun z H2 => D.nx (σ.set i (some z)) H2
theorem ps_aug {i : Nat} {x : Str} {e : Expr} {te : TE} {op : Operator} {ti : TIp} {pos' : Pos} (hN : X.N.Nodup) (hi : X.N[i]? = some x) (hx : Loc X.env.scope x) (he : PE X e te) (ho : PIp X op ti) (hf : X.fn x = true ∨ X.env.scope.names.lookup x = some .local := by first | exact .inl rfl | exact .inr rfl | assumption) :
    PS X (.AugAssign (.Name x pos') op e pos) (tAug i te ti) := by
  intro pins s σ H D I h
  obtain ⟨v, e1, h⟩ := h
  obtain ⟨m, hn, hl⟩ := I.loc
  have vis : Vis X.env.scope x := by rcases hx with k | k; exact .inl k; exact .inr (.inl k)
  obtain ⟨u, r, l⟩ := hl i x v hi e1 vis
  refine wpAny_AugAssign_Name ?_
  have go : wpAny (model X.prog X.w) X.A (eval e X.env) (fun w s₂ => wpAny (model X.prog X.w) X.A (inplaceOp op u w) (fun r s₃ => wpAny (model X.prog X.w) X.A (storeName X.env x r) (fun _ => SP X pins D .next) X.xe s₃) X.xe s₂) X.xe s := by
    refine thn (he pins s σ H _ I h) fun w s1 ⟨y, H1, I1, r1, q1⟩ => ?_
    refine thn (ho pins s1 σ H1 v y u w _ I1 r r1 q1) fun z s2 ⟨zv, H2, I2, r2, q2⟩ => ?_
    exact store_ok I2 hN hi hx r2 (fun s3 I3 => ⟨_, H2, I3, q2⟩) hf
  rcases l with ⟨hk, hm⟩ | ⟨hk, c, hc, hcell⟩
  · exact wpAny_loadName_local I.ok.kind hk hn hm go
  · rcases hk with hk | hk
    · exact wpAny_loadName_cell I.ok.kind hk hc hcell go
    · rcases hx with k | k
      · have : X.env.scope.names.lookup x = some .free := hk
        rw [k] at this; cases this
      · have : X.env.scope.names.lookup x = some .free := hk
        rw [k] at this; cases this
/-- ints -/
noncomputable def ipI (f : Int → Int → Int) : TIp := fun x y H Q => ∃ i j, x = .int i ∧ y = .int j ∧ Q (.int (f i j)) H
theorem ip_add : PIp X .Add (ipI fun i j => i + j) := by
  intro pins s σ H x y v u Q I r1 r2 h
  obtain ⟨i, j, e1, e2, q⟩ := h
  subst e1; subst e2
  obtain ⟨t, rfl⟩ := r1
  obtain ⟨t', rfl⟩ := r2
  exact iadd_int ⟨.int _, H, I.tok _, ⟨_, rfl⟩, q⟩
end

/-! ### while -/
section
variable {X : Cx} {pos : Pos}
/-- the invariant W with its measure -/
noncomputable def tWhile (c : TT) (tb : TS) : TS := fun D σ H => ∃ W : Nat → St → Hp → Prop, (∃ m, W m σ H) ∧ ∀ m σ H, W m σ H →
  c σ H fun b H1 => if b = true then ∃ N : St → Hp → Prop, (∀ σ' H', N σ' H' → ∃ m', m' < m ∧ W m' σ' H') ∧ tb { D with nx := N, ct := N, bk := D.nx } σ H1 else D.nx σ H1
theorem ps_while {c : Expr} {body : List Stmt} {tc : TT} {tb : TS} (hp : PassesOwn (model X.prog X.w) X.A X.env X.xe) (hc : PT X c tc) (hb : PSs X body tb) : PS X (.While c body [] pos) (tWhile tc tb) := by
  intro pins s σ H D I h
  obtain ⟨W, ⟨m0, w0⟩, turn⟩ := h
  refine wpAny_While (codeAny_whileLoop (fun n s' => ∃ σ' H', Inv X pins σ' H' s' ∧ W n σ' H') ?_ m0 ⟨σ, H, I, w0⟩)
  rintro n s1 ⟨σ1, H1, I1, w1⟩
  refine wpAny_passesOwn hp (thn (hc pins s1 σ1 H1 _ I1 (turn n σ1 H1 w1)) fun b s2 ⟨H2, I2, q2⟩ => ?_)
  cases b with
  | true =>
    obtain ⟨N, hN, q2⟩ := q2
    rw [if_pos rfl]
    refine wpAny_passesOwn hp (thn (hb pins s2 σ1 H2 _ I2 q2) fun f s3 q3 => ?_)
    cases f with
    | next =>
      obtain ⟨σ3, H3, I3, n3⟩ := q3
      obtain ⟨m', hm, w3⟩ := hN σ3 H3 n3
      exact ⟨m', hm, σ3, H3, I3, w3⟩
    | cont =>
      obtain ⟨σ3, H3, I3, n3⟩ := q3
      obtain ⟨m', hm, w3⟩ := hN σ3 H3 n3
      exact ⟨m', hm, σ3, H3, I3, w3⟩
    | brk => exact q3
    | ret v => exact q3
  | false =>
    rw [if_neg Bool.false_ne_true]
    exact wpAny_execs_nil ⟨σ1, H2, I2, q2⟩
end

/-! ### what a loop or a comprehension walks -/
/-- at turn i: it yields x (the heap may grow), or it stops -/
structure It where
  go : Nat → Hp → Prop
  yld : Nat → Hp → V → Hp → Prop
  stop : Nat → Hp → Prop
/-- the iterator's own objects may turn: they are not the frame's, not pinned, younger than the entry (or a comprehension's own) -/
noncomputable def FpOk (X : Cx) (pins : List (Addr × Obj)) (H : Hp) (b : Addr) : Prop :=
  H b = none ∧ b ≠ X.env.locals ∧ b ∉ X.fs ∧ (b ∈ X.ex ∨ X.s₀.heap.objs.size ≤ b) ∧ (∀ x c, X.env.cells.lookup x = some c → c ≠ b) ∧ ∀ p ∈ X.pn ++ pins, p.1 ≠ b
theorem Inv.fpOk {X : Cx} {pins : List (Addr × Obj)} {σ : St} {H H' : Hp} {s : Shared} {b : Addr} (I : Inv X pins σ H s) (hb : s.heap.objs.size ≤ b) (hn : H' b = none) : FpOk X pins H' b := by
  refine ⟨hn, Nat.ne_of_gt (Nat.lt_of_lt_of_le I.lt hb), I.nofs hb, .inr (Nat.le_trans I.sz hb), fun x c e z => ?_, fun p hp z => ?_⟩
  · obtain ⟨v, q⟩ := I.cell x c e
    exact absurd (Nat.lt_of_lt_of_le q.lt (by rw [z]; exact hb)) (Nat.lt_irrefl _)
  · exact absurd (Nat.lt_of_lt_of_le (Heap.lt_size (I.pin p hp).1) (by rw [z]; exact hb)) (Nat.lt_irrefl _)
structure Turn (P : Program) (w : World) (K : PySem.W.Frag) (tg : Expr) (J : It) (fp : List Addr) (it : Addr) (tn : Nat → Heap → Prop) : Prop where
  mem : it ∈ fp
  obj : ∀ i h, tn i h → ∀ b ∈ fp, ∃ o, h.get? b = some o ∧ ∀ v, o.data ≠ .cell v
  keep : ∀ i h h', tn i h → (∀ b ∈ fp, ∀ o, h.get? b = some o → h'.get? b = some o) → tn i h'
  item : ∀ (X : Cx), X.prog = P → X.w = w → X.K = K → X.calm = true → ∀ (i : Nat) (pins : List (Addr × Obj)) (s : Shared) (σ : St) (H : Hp) (E : Value → Shared → Prop), Inv X pins σ H s → (∀ b ∈ fp, FpOk X pins H b) → tn i s.heap → J.go i H →
    wpAny (model P w) X.A (pyNext (.ref it)) (fun r s1 => ∃ u, r = some u ∧
      wpAny (model P w) X.A (letOwnedTupleGo tg (.ref it) u) (fun _ s2 => ∃ x H', Inv X pins σ H' s2 ∧ RelV x u ∧ J.yld i H x H' ∧ tn (i + 1) s2.heap ∧ ∀ b ∈ fp, H' b = none) E s1) E s
  done : ∀ (X : Cx), X.prog = P → X.w = w → X.K = K → X.calm = true → ∀ (i : Nat) (pins : List (Addr × Obj)) (s : Shared) (σ : St) (H : Hp) (E : Value → Shared → Prop), Inv X pins σ H s → (∀ b ∈ fp, FpOk X pins H b) → tn i s.heap → J.stop i H →
    wpAny (model P w) X.A (pyNext (.ref it)) (fun r s1 => r = none ∧ Inv X pins σ H s1) E s
  self : ∀ (A : Around) (i : Nat) (s : Shared) (Q : Value → Shared → Prop) (E : Value → Shared → Prop), tn i s.heap → Q (.ref it) s → wpAny (model P w) A (pyIter (.ref it)) Q E s
noncomputable abbrev TI := St → Hp → (It → Hp → Prop) → Prop
/-- an iterator has come -/
noncomputable def PIE (X : Cx) (pins : List (Addr × Obj)) (σ : St) (tg : Expr) (R : It → Hp → Prop) (itv : Value) (s2 : Shared) : Prop :=
  ∃ (it : Addr) (fp : List Addr) (tn : Nat → Heap → Prop) (J : It) (H' : Hp), itv = .ref it ∧ Inv X pins σ H' s2 ∧ Turn X.prog X.w X.K tg J fp it tn ∧ tn 0 s2.heap ∧ (∀ b ∈ fp, FpOk X pins H' b) ∧ R J H'
noncomputable def PI (X : Cx) (tg iter : Expr) (wi : TI) : Prop :=
  ∀ (pins : List (Addr × Obj)) (s : Shared) (σ : St) (H : Hp) (R : It → Hp → Prop), Inv X pins σ H s → wi σ H R →
    wpAny (model X.prog X.w) X.A (eval iter X.env) (fun v s1 => wpAny (model X.prog X.w) X.A (pyIter v) (PIE X pins σ tg R) X.xe s1) X.xe s

/-- the step ahead of the store is nothing for an iterator that keeps no tuple -/
theorem go_of {M : Model} {A : Around} {E : Value → Shared → Prop} {s : Shared} {tg : Expr} {it : Addr} {u : Value} {o : Obj} {n : String} {vs : Array Value} {Q : Unit → Shared → Prop} (ho : s.heap.get? it = some o) (hc : o.cls = .type n) (hd : o.data = .fields vs)
    (hn : ["enumerate", "zip", "dict_itemiterator", "dict_reverseitemiterator", "odict_iterator", "itertools.zip_longest", "itertools.pairwise"].contains n = false) (hQ : Q () s) : wpAny M A (letOwnedTupleGo tg (.ref it) u) Q E s := by
  unfold letOwnedTupleGo
  cases tg <;> first
    | exact wpAny_pure hQ
    | (cases u <;> first
        | exact wpAny_pure hQ
        | (refine wpAny_bind (wpAny_load ho ?_)
           rw [hc, hd]
           show wpAny M A (if (["enumerate", "zip", "dict_itemiterator", "dict_reverseitemiterator", "odict_iterator", "itertools.zip_longest", "itertools.pairwise"].contains n && vs[0]? == some (rawInt _)) = true then _ else _) Q E s
           rw [if_neg (by intro h; rw [hn, Bool.false_and] at h; cases h)]
           exact wpAny_pure hQ))

/-- the list at a, as it stands at each turn (a loop may append to it) -/
noncomputable def Itl (K : PySem.W.Frag) (a : Addr) : It :=
  ⟨fun i H => ∃ xs x, SqL K H a xs ∧ xs[i]? = some x, fun i H x H' => H' = H ∧ ∀ xs, SqL K H a xs → xs[i]? = some x, fun i H => ∃ xs, SqL K H a xs ∧ xs.length ≤ i⟩
noncomputable def Itt (K : PySem.W.Frag) (a : Addr) : It :=
  ⟨fun i H => ∃ xs x, SqT K H a xs ∧ xs[i]? = some x, fun i H x H' => H' = H ∧ ∀ xs, SqT K H a xs → xs[i]? = some x, fun i H => ∃ xs, SqT K H a xs ∧ xs.length ≤ i⟩
/-- lo, lo + 1, .. (n of them) -/
noncomputable def Itr (lo : Int) (n : Nat) : It := ⟨fun i _ => i < n, fun i H x H' => H' = H ∧ x = .int (lo + i), fun i _ => n ≤ i⟩
theorem turn_list {P : Program} {w : World} {K : PySem.W.Frag} {tg : Expr} (a it : Addr) : Turn P w K tg (Itl K a) [it] it (fun i h => h.IsListIter it a i) where
  mem := by simp
  obj := fun i h st b hb => by
    have e : b = it := by simpa using hb
    subst e
    obtain ⟨o, e, c, d⟩ := st
    exact ⟨o, e, fun v z => by rw [d] at z; cases z⟩
  keep := fun i h h' st k => st.at fun o e => k it (by simp) o e
  item := by
    intro X hP hw hK hc i pins s σ H E I hf st hg
    subst hP hw hK
    obtain ⟨xs, x, hq, hx⟩ := hg
    obtain ⟨its, rv, p, hz⟩ := I.list hq
    obtain ⟨u, hu, ru⟩ := rv.get hx
    obtain ⟨f0, f1, f2, f3, f4, f5⟩ := hf it (by simp)
    refine wpAny_pyNext_list_item st p.isList (x := u) (by simpa using hu) fun h' st' sb => ?_
    have I1 : Inv X pins σ H { s with heap := h' } := I.turned (t' := s.toks) (fun b o hb e => (sb.2 b hb).trans e) f0 f1 f3 f4 f5
    obtain ⟨o, e, c, d⟩ := id st'
    exact ⟨u, rfl, go_of (s := { s with heap := h' }) e c d (by decide) ⟨x, H, I1, ru, ⟨rfl, fun ys hy => by rw [I.list_inj hy hq]; exact hx⟩, st', fun b hb => (hf b hb).1⟩⟩
  done := by
    intro X hP hw hK hc i pins s σ H E I hf st hg
    subst hP hw hK
    obtain ⟨xs, hq, hx⟩ := hg
    obtain ⟨its, rv, p, hz⟩ := I.list hq
    obtain ⟨f0, f1, f2, f3, f4, f5⟩ := hf it (by simp)
    have hl := rv.length
    exact wpAny_pyNext_list_end (I.ok.hd hc) st p.isList (by simp; omega) fun h' eb => ⟨rfl, I.turned (t' := s.toks) (fun b o hb e => eb b o hb e) f0 f1 f3 f4 f5⟩
  self := fun _ _ _ _ _ st h => wpAny_pyIter_listiter st h
theorem turn_tuple {P : Program} {w : World} {K : PySem.W.Frag} {tg : Expr} (a it : Addr) : Turn P w K tg (Itt K a) [it] it (fun i h => h.IsTupleIter it a i) where
  mem := by simp
  obj := fun i h st b hb => by
    have e : b = it := by simpa using hb
    subst e
    obtain ⟨o, e, c, d⟩ := st
    exact ⟨o, e, fun v z => by rw [d] at z; cases z⟩
  keep := fun i h h' st k => st.at fun o e => k it (by simp) o e
  item := by
    intro X hP hw hK hc i pins s σ H E I hf st hg
    subst hP hw hK
    obtain ⟨xs, x, hq, hx⟩ := hg
    obtain ⟨its, rv, p, hz⟩ := I.tuple hq
    obtain ⟨u, hu, ru⟩ := rv.get hx
    obtain ⟨f0, f1, f2, f3, f4, f5⟩ := hf it (by simp)
    refine wpAny_pyNext_tuple_item st (show s.heap.IsTuple a its.toArray from p) (x := u) (by simpa using hu) fun h' st' sb => ?_
    have I1 : Inv X pins σ H { s with heap := h' } := I.turned (t' := s.toks) (fun b o hb e => (sb.2 b hb).trans e) f0 f1 f3 f4 f5
    obtain ⟨o, e, c, d⟩ := id st'
    exact ⟨u, rfl, go_of (s := { s with heap := h' }) e c d (by decide) ⟨x, H, I1, ru, ⟨rfl, fun ys hy => by rw [I.tuple_inj hy hq]; exact hx⟩, st', fun b hb => (hf b hb).1⟩⟩
  done := by
    intro X hP hw hK hc i pins s σ H E I hf st hg
    subst hP hw hK
    obtain ⟨xs, hq, hx⟩ := hg
    obtain ⟨its, rv, p, hz⟩ := I.tuple hq
    obtain ⟨f0, f1, f2, f3, f4, f5⟩ := hf it (by simp)
    have hl := rv.length
    exact wpAny_pyNext_tuple_end (I.ok.hd hc) st (show s.heap.IsTuple a its.toArray from p) (by simp; omega) fun h' eb => ⟨rfl, I.turned (t' := s.toks) (fun b o hb e => eb b o hb e) f0 f1 f3 f4 f5⟩
  self := fun _ _ _ _ _ st h => wpAny_pyIter_tupleiter st h
theorem turn_range {P : Program} {w : World} {K : PySem.W.Frag} {tg : Expr} (it : Addr) (lo : Int) (n : Nat) : Turn P w K tg (Itr lo n) [it] it (fun i h => IsRangeIter h it (lo + (i : Nat) * 1) ((n : Int) - (i : Nat)) 1) where
  mem := by simp
  obj := fun i h st b hb => by
    have e : b = it := by simpa using hb
    subst e
    exact ⟨_, st, fun v z => by
      have z' : Data.fields _ = Data.cell v := z
      cases z'⟩
  keep := fun i h h' st k => k it (by simp) _ st
  item := by
    intro X hP hw hK hc i pins s σ H E I hf st hg
    subst hP hw hK
    obtain ⟨f0, f1, f2, f3, f4, f5⟩ := hf it (by simp)
    have W := Walks.range (prog := X.prog) (w := X.w) (I.ok.hd hc) it lo 1 n
    refine W.item i s _ _ hg st fun v h' tk hv st' kk => ?_
    obtain ⟨t, rfl⟩ := hv
    have I1 : Inv X pins σ H { s with heap := h', toks := tk } := I.turned (fun b o hb e => kk b o (by simpa using hb) e) f0 f1 f3 f4 f5
    refine ⟨_, rfl, go_of (s := { s with heap := h', toks := tk }) (n := "range_iterator") st' rfl rfl (by decide) ⟨.int (lo + i), H, I1, ⟨t, ?_⟩, ⟨rfl, rfl⟩, st', fun b hb => (hf b hb).1⟩⟩
    rw [Int.mul_one]
  done := by
    intro X hP hw hK hc i pins s σ H E I hf st hg
    subst hP hw hK
    obtain ⟨f0, f1, f2, f3, f4, f5⟩ := hf it (by simp)
    exact wpAny_pyNext_range_end (I.ok.hd hc) st (by have : n ≤ i := hg; omega) fun h' eb => ⟨rfl, I.turned (t' := s.toks) (fun b o hb e => eb b o hb e) f0 f1 f3 f4 f5⟩
  self := fun _ _ _ _ _ st h => wpAny_pyIter_rangeiter st h
end L2

namespace L2
open PySem PySem.Spec PyProof.Rows
section
variable {X : Cx} {tg : Expr}
noncomputable def iList (K : PySem.W.Frag) (tl : TE) : TI := fun σ H R => tl σ H fun x H1 => ∃ a, x = .ref a ∧ (∃ xs, SqL K H1 a xs) ∧ R (Itl K a) H1
noncomputable def iTup (K : PySem.W.Frag) (tl : TE) : TI := fun σ H R => tl σ H fun x H1 => ∃ a, x = .ref a ∧ (∃ xs, SqT K H1 a xs) ∧ R (Itt K a) H1
theorem pi_list {l : Expr} {tl : TE} (hl : PE X l tl) : PI X tg l (iList X.K tl) := by
  intro pins s σ H R I h
  refine thn (hl pins s σ H _ I h) fun v s1 ⟨x, H1, I1, r1, q1⟩ => ?_
  obtain ⟨a, e, ⟨xs, hq⟩, q⟩ := q1
  subst e
  cases r1
  obtain ⟨its, rv, p, hz⟩ := I1.list hq
  refine wpAny_pyIter_list p.isList ?_
  refine ⟨s1.heap.objs.size, [s1.heap.objs.size], _, _, H1, rfl, I1.kept (t' := s1.toks) fun b o e => Heap.get?_push_of_some _ e, turn_list a _, ⟨_, Heap.get?_push_size _ rfl, rfl, rfl⟩, fun b hb => ?_, q⟩
  have e : b = s1.heap.objs.size := by simpa using hb
  subst e
  exact I1.fpOk (Nat.le_refl _) (I1.hok.fresh (Nat.le_refl _))
theorem pi_tup {l : Expr} {tl : TE} (hl : PE X l tl) : PI X tg l (iTup X.K tl) := by
  intro pins s σ H R I h
  refine thn (hl pins s σ H _ I h) fun v s1 ⟨x, H1, I1, r1, q1⟩ => ?_
  obtain ⟨a, e, ⟨xs, hq⟩, q⟩ := q1
  subst e
  cases r1
  obtain ⟨its, rv, p, hz⟩ := I1.tuple hq
  refine wpAny_pyIter_tuple (show s1.heap.IsTuple a its.toArray from p) ?_
  refine ⟨s1.heap.objs.size, [s1.heap.objs.size], _, _, H1, rfl, I1.kept (t' := s1.toks) fun b o e => Heap.get?_push_of_some _ e, turn_tuple a _, ⟨_, Heap.get?_push_size _ rfl, rfl, rfl⟩, fun b hb => ?_, q⟩
  have e : b = s1.heap.objs.size := by simpa using hb
  subst e
  exact I1.fpOk (Nat.le_refl _) (I1.hok.fresh (Nat.le_refl _))
/-- a range object just made, walked -/
theorem range_it {pins : List (Addr × Obj)} {σ : St} {H : Hp} {s : Shared} {R : It → Hp → Prop} {E : Value → Shared → Prop} {lo hi : Int} {t u v : Tok} {tk : Nat} (I : Inv X pins σ H s) (h1 : -(2 ^ 62) ≤ lo) (h2 : lo < 2 ^ 62) (h3 : -(2 ^ 62) ≤ hi) (h4 : hi < 2 ^ 62)
    (q : R (Itr lo (hi - lo).toNat) H) : wpAny (model X.prog X.w) X.A (pyIter (.ref s.heap.objs.size)) (PIE X pins σ tg R) E { s with heap := s.heap.push { cls := .type "range", data := .fields #[.int lo t, .int hi u, .int 1 v] }, toks := tk } := by
  refine wpAny_pyIter_range (IsRange.new ..) (small_one h1 h2 h3 h4) ?_
  have I1 : Inv X pins σ H { s with heap := s.heap.push { cls := .type "range", data := .fields #[.int lo t, .int hi u, .int 1 v] }, toks := tk } := I.kept fun b o e => Heap.get?_push_of_some _ e
  refine ⟨(s.heap.push { cls := .type "range", data := .fields #[.int lo t, .int hi u, .int 1 v] }).objs.size, [(s.heap.push { cls := .type "range", data := .fields #[.int lo t, .int hi u, .int 1 v] }).objs.size], _, _, H, rfl,
    I1.kept (t' := tk) fun b o e => Heap.get?_push_of_some _ e, turn_range _ lo (hi - lo).toNat, ?_, fun b hb => ?_, q⟩
  · have e1 : lo + ((0 : Nat) : Int) * 1 = lo := by simp
    have e2 : (((hi - lo).toNat : Nat) : Int) - ((0 : Nat) : Int) = Builtin.Range.rangeSize lo hi 1 := by rw [rangeSize_one]; split <;> omega
    show IsRangeIter _ _ (lo + ((0 : Nat) : Int) * 1) ((((hi - lo).toNat : Nat) : Int) - ((0 : Nat) : Int)) 1
    rw [e1, e2]
    exact Heap.get?_push_size _ rfl
  · have e : b = (s.heap.push { cls := .type "range", data := .fields #[.int lo t, .int hi u, .int 1 v] }).objs.size := by simpa using hb
    subst e
    exact I1.fpOk (Nat.le_refl _) (I1.hok.fresh (Nat.le_refl _))
noncomputable def iRng1 (ta : TA) : TI := fun σ H R => ta σ H fun vs H1 => ∃ j : Int, vs = [.int j] ∧ -(2 ^ 62) ≤ j ∧ j < 2 ^ 62 ∧ R (Itr 0 j.toNat) H1
noncomputable def iRng2 (ta : TA) : TI := fun σ H R => ta σ H fun vs H1 => ∃ i j : Int, vs = [.int i, .int j] ∧ (-(2 ^ 62) ≤ i ∧ i < 2 ^ 62 ∧ -(2 ^ 62) ≤ j ∧ j < 2 ^ 62) ∧ R (Itr i (j - i).toNat) H1
theorem pi_range1 {a : Expr} {ta : TA} {p pos : Pos} (hg : Gl X "range") (hm : X.mg "range" = none) (ha : PA X [a] ta) (hs : starEach [a] X.env = [(false, eval a X.env)] := by exact star_one rfl) : PI X tg (.Call (.Name "range" p) [a] [] pos) (iRng1 ta) := by
  intro pins s σ H R I h
  refine Call_ (ld_blt I hg hm boot_range (PyProof.Rows.callWith_type1 (thn (ha pos pins s σ H _ I h) fun us s1 ⟨vs, H1, I1, r1, q1⟩ => ?_) hs rfl))
  obtain ⟨j, e, q1, q2, q⟩ := q1
  subst e
  cases r1 with
  | cons r rr =>
    cases rr
    obtain ⟨t, rfl⟩ := r
    exact call_range_1 (range_it I1 (by omega) (by omega) q1 q2 (by simpa using q))
theorem pi_range2 {a b : Expr} {ta : TA} {p pos : Pos} (hg : Gl X "range") (hm : X.mg "range" = none) (ha : PA X [a, b] ta) (hs : starEach [a, b] X.env = [(false, eval a X.env), (false, eval b X.env)] := by exact star_two rfl rfl) (hs2 : starEach [b] X.env = [(false, eval b X.env)] := by exact star_one rfl) :
    PI X tg (.Call (.Name "range" p) [a, b] [] pos) (iRng2 ta) := by
  intro pins s σ H R I h
  refine Call_ (ld_blt I hg hm boot_range (PyProof.Rows.callWith_type1 (thn (ha pos pins s σ H _ I h) fun us s1 ⟨vs, H1, I1, r1, q1⟩ => ?_) (by rw [hs, hs2]) (by rw [hs2]; rfl)))
  obtain ⟨i, j, e, ⟨q1, q2, q3, q4⟩, q⟩ := q1
  subst e
  cases r1 with
  | cons r rr =>
    cases rr with
    | cons r' rr =>
      cases rr
      obtain ⟨t, rfl⟩ := r
      obtain ⟨t', rfl⟩ := r'
      exact call_range_2 (range_it I1 q1 q2 q3 q4 q)

/-! ### for -/
/-- W: the invariant by the turn and a measure; N: what the body is to reach -/
noncomputable def tFor (wi : TI) (g : TG) (tb : TS) : TS := fun D σ H => wi σ H fun J H1 => ∃ W : Nat → Nat → St → Hp → Prop, (∃ m, W 0 m σ H1) ∧ ∀ i m σ H, W i m σ H →
  (J.stop i H ∧ D.nx σ H) ∨ (J.go i H ∧ ∃ N : St → Hp → Prop, (∀ σ' H', N σ' H' → ∃ m', m' < m ∧ W (i + 1) m' σ' H') ∧ ∀ x H', J.yld i H x H' → g x σ H' fun σ2 H2 => tb { D with nx := N, ct := N, bk := D.nx } σ2 H2)
/-- the records at fp as they stand -/
noncomputable def pinsAt (fp : List Addr) (h : Heap) : List (Addr × Obj) := fp.filterMap fun b => (h.get? b).map fun o => (b, o)
theorem mem_pinsAt {fp : List Addr} {h : Heap} {b : Addr} {o : Obj} (hb : b ∈ fp) (e : h.get? b = some o) : (b, o) ∈ pinsAt fp h := List.mem_filterMap.mpr ⟨b, hb, by rw [e]; rfl⟩
theorem of_pinsAt {fp : List Addr} {h : Heap} {p : Addr × Obj} (hp : p ∈ pinsAt fp h) : p.1 ∈ fp ∧ h.get? p.1 = some p.2 := by
  obtain ⟨b, hb, e⟩ := List.mem_filterMap.mp hp
  cases q : h.get? b with
  | none => rw [q] at e; cases e
  | some o =>
    rw [q] at e
    have e' : (b, o) = p := Option.some.inj e
    subst e'
    exact ⟨hb, q⟩
theorem Inv.pinned {pins : List (Addr × Obj)} {σ : St} {H : Hp} {s : Shared} {fp : List Addr} (I : Inv X pins σ H s) (hf : ∀ b ∈ fp, FpOk X pins H b) (ho : ∀ b ∈ fp, ∃ o, s.heap.get? b = some o ∧ ∀ v, o.data ≠ .cell v) : Inv X (pins ++ pinsAt fp s.heap) σ H s :=
  I.pins_of fun p hp => (List.mem_append.mp hp).elim (fun z => I.pin p (List.mem_append_right _ z)) fun z => by
    obtain ⟨hb, e⟩ := of_pinsAt z
    obtain ⟨f0, f1, f2, _⟩ := hf p.1 hb
    obtain ⟨o, e', d⟩ := ho p.1 hb
    rw [e] at e'; cases e'
    exact ⟨e, f0, f1, f2, d⟩
theorem Inv.unpinned {pins pl : List (Addr × Obj)} {σ : St} {H : Hp} {s : Shared} (I : Inv X (pins ++ pl) σ H s) : Inv X pins σ H s := I.pins_of fun p hp => I.pin p (List.mem_append_right _ (List.mem_append_left _ hp))
theorem ps_for {iter : Expr} {body : List Stmt} {wi : TI} {g : TG} {tb : TS} {pos : Pos} (hp : PassesOwn (model X.prog X.w) X.A X.env X.xe) (hc : X.calm = true) (hi : PI X tg iter wi) (hg : PG X tg g) (hb : PSs X body tb)
    (hs : ∀ x, foldedSetIterable iter X.env x = pure x := by intro _; rfl) : PS X (.For tg iter body [] pos) (tFor wi g tb) := by
  intro pins s σ H D I h
  refine wpAny_For (thn (hi pins s σ H _ I h) fun v s1 h1 => thn h1 fun itv s2 h2 => ?_) hs
  obtain ⟨it, fp, tn, J, H2, e, I2, T, st2, f2, W, ⟨m0, w0⟩, turn⟩ := h2
  subst e
  -- what stays true of the iterator's objects through the loop
  have stat : ∀ {H' : Hp}, (∀ b ∈ fp, H' b = none) → ∀ b ∈ fp, FpOk X pins H' b := fun hn b hb => ⟨hn b hb, (f2 b hb).2⟩
  refine codeAny_forLoop_any (fun n s' => ∃ i σ' H', Inv X pins σ' H' s' ∧ tn i s'.heap ∧ (∀ b ∈ fp, H' b = none) ∧ W i n σ' H') ?_ m0 ⟨0, σ, H2, I2, st2, fun b hb => (f2 b hb).1, w0⟩
  rintro n s3 ⟨i, σ3, H3, I3, st3, fr3, w3⟩
  rcases turn i n σ3 H3 w3 with ⟨stop, qn⟩ | ⟨go, N, hN, step⟩
  · refine wpAny_passesOwn hp (thn (T.done X rfl rfl rfl hc i pins s3 σ3 H3 X.xe I3 (stat fr3) st3 stop) fun r s4 ⟨hr, I4⟩ => ?_)
    subst hr
    exact wpAny_execs_nil ⟨σ3, H3, I4, qn⟩
  · refine wpAny_passesOwn hp (thn (T.item X rfl rfl rfl hc i pins s3 σ3 H3 X.xe I3 (stat fr3) st3 go) fun r s4 ⟨u, hr, h4⟩ => ?_)
    subst hr
    refine wpAny_passesOwn hp (thn h4 fun _ s5 ⟨x, H5, I5, r5, y5, st5, fr5⟩ => ?_)
    have I5' := I5.pinned (stat fr5) (T.obj _ _ st5)
    refine wpAny_passesOwn hp (thn (hg _ s5 σ3 H5 x u _ I5' r5 (step x H5 y5)) fun _ s6 ⟨σ6, H6, I6, q6⟩ => ?_)
    refine wpAny_passesOwn hp (thn (hb _ s6 σ6 H6 _ I6 q6) fun f s7 q7 => ?_)
    have again : ∀ {σ7 : St} {H7 : Hp}, Inv X (pins ++ pinsAt fp s5.heap) σ7 H7 s7 → N σ7 H7 → ∃ m, m < n ∧ ∃ i σ' H', Inv X pins σ' H' s7 ∧ tn i s7.heap ∧ (∀ b ∈ fp, H' b = none) ∧ W i m σ' H' := fun {σ7 H7} I7 n7 => by
      obtain ⟨m', hm, w7⟩ := hN σ7 H7 n7
      refine ⟨m', hm, i + 1, σ7, H7, I7.unpinned, T.keep _ _ _ st5 fun b hb o e => (I7.pin (b, o) (List.mem_append_right _ (List.mem_append_right _ (mem_pinsAt hb e)))).1, fun b hb => ?_, w7⟩
      obtain ⟨o, e, d⟩ := T.obj _ _ st5 b hb
      exact (I7.pin (b, o) (List.mem_append_right _ (List.mem_append_right _ (mem_pinsAt hb e)))).2.1
    cases f with
    | next => obtain ⟨σ7, H7, I7, n7⟩ := q7; exact again I7 n7
    | cont => obtain ⟨σ7, H7, I7, n7⟩ := q7; exact again I7 n7
    | brk => obtain ⟨σ7, H7, I7, q7⟩ := q7; exact ⟨σ7, H7, I7.unpinned, q7⟩
    | ret v => obtain ⟨x7, σ7, H7, I7, r7, q7⟩ := q7; exact ⟨x7, σ7, H7, I7.unpinned, r7, q7⟩
end

/-! ### the forms one uses -/
/-- over a list that the body leaves as it is -/
theorem for_list {K : PySem.W.Frag} {a : Addr} {xs : List V} {g : TG} {tb : TS} {D : Ends} {σ : St} {H : Hp} (Pv : Nat → St → Hp → Prop) (h0 : Pv 0 σ H) (hl : ∀ i σ H, i ≤ xs.length → Pv i σ H → SqL K H a xs)
    (hs : ∀ i x σ H, xs[i]? = some x → Pv i σ H → g x σ H fun σ2 H2 => tb { D with nx := Pv (i + 1), ct := Pv (i + 1), bk := D.nx } σ2 H2) (hd : ∀ σ H, Pv xs.length σ H → D.nx σ H) :
    ∃ W : Nat → Nat → St → Hp → Prop, (∃ m, W 0 m σ H) ∧ ∀ i m σ H, W i m σ H →
      ((Itl K a).stop i H ∧ D.nx σ H) ∨ ((Itl K a).go i H ∧ ∃ N : St → Hp → Prop, (∀ σ' H', N σ' H' → ∃ m', m' < m ∧ W (i + 1) m' σ' H') ∧ ∀ x H', (Itl K a).yld i H x H' → g x σ H' fun σ2 H2 => tb { D with nx := N, ct := N, bk := D.nx } σ2 H2) := by
  refine ⟨fun i m σ H => m = xs.length - i ∧ i ≤ xs.length ∧ Pv i σ H, ⟨xs.length, by simp, Nat.zero_le _, h0⟩, ?_⟩
  rintro i m σ H ⟨rfl, hi, p⟩
  have q := hl i σ H hi p
  by_cases hlt : i < xs.length
  · refine .inr ⟨⟨xs, xs[i], q, by simp [hlt]⟩, Pv (i + 1), fun σ' H' p' => ⟨xs.length - (i + 1), by omega, rfl, hlt, p'⟩, fun x H' y => ?_⟩
    obtain ⟨e, y⟩ := y
    subst e
    exact hs i x σ _ (y xs q) p
  · have e : i = xs.length := by omega
    subst e
    exact .inl ⟨⟨xs, q, Nat.le_refl _⟩, hd σ H p⟩
theorem for_tup {K : PySem.W.Frag} {a : Addr} {xs : List V} {g : TG} {tb : TS} {D : Ends} {σ : St} {H : Hp} (Pv : Nat → St → Hp → Prop) (h0 : Pv 0 σ H) (hl : ∀ i σ H, i ≤ xs.length → Pv i σ H → SqT K H a xs)
    (hs : ∀ i x σ H, xs[i]? = some x → Pv i σ H → g x σ H fun σ2 H2 => tb { D with nx := Pv (i + 1), ct := Pv (i + 1), bk := D.nx } σ2 H2) (hd : ∀ σ H, Pv xs.length σ H → D.nx σ H) :
    ∃ W : Nat → Nat → St → Hp → Prop, (∃ m, W 0 m σ H) ∧ ∀ i m σ H, W i m σ H →
      ((Itt K a).stop i H ∧ D.nx σ H) ∨ ((Itt K a).go i H ∧ ∃ N : St → Hp → Prop, (∀ σ' H', N σ' H' → ∃ m', m' < m ∧ W (i + 1) m' σ' H') ∧ ∀ x H', (Itt K a).yld i H x H' → g x σ H' fun σ2 H2 => tb { D with nx := N, ct := N, bk := D.nx } σ2 H2) := by
  refine ⟨fun i m σ H => m = xs.length - i ∧ i ≤ xs.length ∧ Pv i σ H, ⟨xs.length, by simp, Nat.zero_le _, h0⟩, ?_⟩
  rintro i m σ H ⟨rfl, hi, p⟩
  have q := hl i σ H hi p
  by_cases hlt : i < xs.length
  · refine .inr ⟨⟨xs, xs[i], q, by simp [hlt]⟩, Pv (i + 1), fun σ' H' p' => ⟨xs.length - (i + 1), by omega, rfl, hlt, p'⟩, fun x H' y => ?_⟩
    obtain ⟨e, y⟩ := y
    subst e
    exact hs i x σ _ (y xs q) p
  · have e : i = xs.length := by omega
    subst e
    exact .inl ⟨⟨xs, q, Nat.le_refl _⟩, hd σ H p⟩
theorem for_range {lo : Int} {n : Nat} {g : TG} {tb : TS} {D : Ends} {σ : St} {H : Hp} (Pv : Nat → St → Hp → Prop) (h0 : Pv 0 σ H)
    (hs : ∀ i σ H, i < n → Pv i σ H → g (.int (lo + i)) σ H fun σ2 H2 => tb { D with nx := Pv (i + 1), ct := Pv (i + 1), bk := D.nx } σ2 H2) (hd : ∀ σ H, Pv n σ H → D.nx σ H) :
    ∃ W : Nat → Nat → St → Hp → Prop, (∃ m, W 0 m σ H) ∧ ∀ i m σ H, W i m σ H →
      ((Itr lo n).stop i H ∧ D.nx σ H) ∨ ((Itr lo n).go i H ∧ ∃ N : St → Hp → Prop, (∀ σ' H', N σ' H' → ∃ m', m' < m ∧ W (i + 1) m' σ' H') ∧ ∀ x H', (Itr lo n).yld i H x H' → g x σ H' fun σ2 H2 => tb { D with nx := N, ct := N, bk := D.nx } σ2 H2) := by
  refine ⟨fun i m σ H => m = n - i ∧ i ≤ n ∧ Pv i σ H, ⟨n, by simp, Nat.zero_le _, h0⟩, ?_⟩
  rintro i m σ H ⟨rfl, hi, p⟩
  by_cases hlt : i < n
  · refine .inr ⟨hlt, Pv (i + 1), fun σ' H' p' => ⟨n - (i + 1), by omega, rfl, hlt, p'⟩, fun x H' y => ?_⟩
    obtain ⟨e, y⟩ := y
    subst e y
    exact hs i σ _ hlt p
  · have e : i = n := by omega
    subst e
    exact .inl ⟨Nat.le_refl _, hd σ H p⟩
end L2

namespace L2
open PySem PySem.Spec PyProof.Rows

noncomputable abbrev R2 := V → V → Hp → VK → Prop
/-- a two-place operation on values: f is binaryOp op, inplaceOp op or compareOp op -/
noncomputable def OpR (X : Cx) (f : Value → Value → Sem Value) (r : R2) : Prop :=
  ∀ (pins : List (Addr × Obj)) (s : Shared) (σ : St) (H : Hp) (x y : V) (v u : Value) (Q : VK), Inv X pins σ H s → RelV x v → RelV y u → r x y H Q →
    wpAny (model X.prog X.w) X.A (f v u) (EP X pins σ Q) X.xe s
/-- a one-place operation -/
noncomputable def UnR (X : Cx) (f : Value → Sem Value) (r : V → Hp → VK → Prop) : Prop :=
  ∀ (pins : List (Addr × Obj)) (s : Shared) (σ : St) (H : Hp) (x : V) (v : Value) (Q : VK), Inv X pins σ H s → RelV x v → r x H Q →
    wpAny (model X.prog X.w) X.A (f v) (EP X pins σ Q) X.xe s
/-- a call of a value that is known (a builtin, a type) with values -/
noncomputable def CallR (X : Cx) (f : Value) (r : List V → Hp → VK → Prop) : Prop :=
  ∀ (pins : List (Addr × Obj)) (s : Shared) (σ : St) (H : Hp) (xs : List V) (us : List Value) (Q : VK), Inv X pins σ H s → Vals xs us → r xs H Q →
    wpAny (model X.prog X.w) X.A (call f us) (EP X pins σ Q) X.xe s
/-- a value's truth -/
noncomputable def TruR (X : Cx) (r : V → Hp → (Bool → Hp → Prop) → Prop) : Prop :=
  ∀ (pins : List (Addr × Obj)) (s : Shared) (σ : St) (H : Hp) (x : V) (v : Value) (Q : Bool → Hp → Prop), Inv X pins σ H s → RelV x v → r x H Q →
    wpAny (model X.prog X.w) X.A (truthy v) (TP X pins σ Q) X.xe s

noncomputable def tOp (r : R2) (ta tb : TE) : TE := fun σ H Q => ta σ H fun x H1 => tb σ H1 fun y H2 => r x y H2 Q
noncomputable def tUn (r : V → Hp → VK → Prop) (ta : TE) : TE := fun σ H Q => ta σ H fun x H1 => r x H1 Q
/-- ints in, under C, and a value out -/
noncomputable def rI (C : Int → Int → Prop) (g : Int → Int → V) : R2 := fun x y H Q => ∃ i j, x = .int i ∧ y = .int j ∧ C i j ∧ Q (g i j) H
noncomputable def rI0 (g : Int → Int → V) : R2 := fun x y H Q => ∃ i j, x = .int i ∧ y = .int j ∧ Q (g i j) H
noncomputable def rU (g : Int → V) : V → Hp → VK → Prop := fun x H Q => ∃ i, x = .int i ∧ Q (g i) H

section
variable {X : Cx} {a b c : Expr} {ta tb tc : TE} {pos : Pos}

theorem binT (ha : PE X a ta) (hb : PE X b tb) {pins : List (Addr × Obj)} {s : Shared} {σ : St} {H : Hp} {R : V → V → Hp → Prop} (I : Inv X pins σ H s)
    (h : ta σ H fun x H1 => tb σ H1 fun y H2 => R x y H2) {Q : Value → Shared → Prop} {f : Value → Value → Sem Value}
    (hf : ∀ v u s2 x y H2, Inv X pins σ H2 s2 → RelV x v → RelV y u → R x y H2 → wpAny (model X.prog X.w) X.A (f v u) Q X.xe s2) :
    wpAny (model X.prog X.w) X.A (eval a X.env) (fun v s₁ => wpAny (model X.prog X.w) X.A (eval b X.env) (fun u s₂ => wpAny (model X.prog X.w) X.A (f v u) Q X.xe s₂) X.xe s₁) X.xe s := by
  refine thn (ha pins s σ H _ I h) fun v s1 ⟨x, H1, I1, r1, q1⟩ => ?_
  refine thn (hb pins s1 σ H1 _ I1 q1) fun u s2 ⟨y, H2, I2, r2, q2⟩ => ?_
  exact hf v u s2 x y H2 I2 r1 r2 q2

theorem pe_op {op : Operator} {r : R2} (ho : OpR X (binaryOp op) r) (ha : PE X a ta) (hb : PE X b tb) : PE X (.BinOp a op b pos) (tOp r ta tb) := by
  intro pins s σ H Q I h
  exact wpAny_BinOp (binT ha hb I h fun v u s2 x y H2 I2 rx ry q => ho pins s2 σ H2 x y v u Q I2 rx ry q)
theorem pe_un {op : UnaryOp} {r : V → Hp → VK → Prop} (ho : UnR X (unaryOp op) r) (ha : PE X a ta) : PE X (.UnaryOp op a pos) (tUn r ta) := by
  intro pins s σ H Q I h
  exact UnaryOp_ (thn (ha pins s σ H _ I h) fun v s1 ⟨x, H1, I1, r1, q1⟩ => ho pins s1 σ H1 x v Q I1 r1 q1)
/-! ### ints -/
theorem opI {f : Value → Value → Sem Value} {C : Int → Int → Prop} {g : Int → Int → Int}
    (rule : ∀ (i j : Int) (t u : Tok) (s : Shared) (Q : Value → Shared → Prop) (E : Value → Shared → Prop), C i j → Q (.int (g i j) s.toks) { s with toks := s.toks + 1 } → wpAny (model X.prog X.w) X.A (f (.int i t) (.int j u)) Q E s) :
    OpR X f (rI C fun i j => .int (g i j)) := by
  intro pins s σ H x y v u Q I rx ry h
  obtain ⟨i, j, rfl, rfl, hc, q⟩ := h
  obtain ⟨t, rfl⟩ := rx
  obtain ⟨t', rfl⟩ := ry
  exact rule i j t t' s _ _ hc ⟨.int (g i j), H, I.tok _, ⟨_, rfl⟩, q⟩
theorem opI0 {f : Value → Value → Sem Value} {g : Int → Int → Int}
    (rule : ∀ (i j : Int) (t u : Tok) (s : Shared) (Q : Value → Shared → Prop) (E : Value → Shared → Prop), Q (.int (g i j) s.toks) { s with toks := s.toks + 1 } → wpAny (model X.prog X.w) X.A (f (.int i t) (.int j u)) Q E s) :
    OpR X f (rI0 fun i j => .int (g i j)) := by
  intro pins s σ H x y v u Q I rx ry h
  obtain ⟨i, j, rfl, rfl, q⟩ := h
  obtain ⟨t, rfl⟩ := rx
  obtain ⟨t', rfl⟩ := ry
  exact rule i j t t' s _ _ ⟨.int (g i j), H, I.tok _, ⟨_, rfl⟩, q⟩
theorem opB0 {f : Value → Value → Sem Value} {g : Int → Int → Bool}
    (rule : ∀ (i j : Int) (t u : Tok) (s : Shared) (Q : Value → Shared → Prop) (E : Value → Shared → Prop), Q (.bool (g i j)) s → wpAny (model X.prog X.w) X.A (f (.int i t) (.int j u)) Q E s) :
    OpR X f (rI0 fun i j => .bl (g i j)) := by
  intro pins s σ H x y v u Q I rx ry h
  obtain ⟨i, j, rfl, rfl, q⟩ := h
  obtain ⟨t, rfl⟩ := rx
  obtain ⟨t', rfl⟩ := ry
  exact rule i j t t' s _ _ ⟨.bl (g i j), H, I, rfl, q⟩

noncomputable def CDiv (i j : Int) : Prop := 0 < j ∧ j < 1073741824
noncomputable def CPow (i j : Int) : Prop := 0 ≤ j ∧ j ≤ 1000000 ∧ i.natAbs < 2 ^ 64
noncomputable def CMul (i j : Int) : Prop := (-(2 ^ 64) < i ∧ i < 2 ^ 64) ∨ (-(2 ^ 64) < j ∧ j < 2 ^ 64)
theorem CMul.ok {i j : Int} (h : CMul i j) : IntMulOk i j := by
  rcases h with ⟨h1, h2⟩ | ⟨h1, h2⟩
  · exact .of_left (intBits_le_64 h1 h2)
  · exact .of_right (intBits_le_64 h1 h2)
theorem op_add : OpR X (binaryOp .Add) (rI0 fun i j => .int (i + j)) := opI0 fun _ _ _ _ _ _ _ q => add_int q
theorem op_mul : OpR X (binaryOp .Mult) (rI CMul fun i j => .int (i * j)) := opI fun _ _ _ _ _ _ _ hc q => mul_int q hc.ok
/-- // by a positive divisor -/
theorem op_fdiv : OpR X (binaryOp .FloorDiv) (rI CDiv fun i j => .int (i / j)) := opI fun i j _ _ _ _ _ hc q => by
  have h1 : (0 : Int) < j := hc.1
  have h2 : j < 1073741824 := hc.2
  exact floordiv_int (by omega) (by rw [Int.fdiv_eq_ediv_of_nonneg i (by omega)]; exact q) (.inl (PyProof.noPylong_small (by omega)))
/-- % by a positive divisor of any size -/
theorem op_mod : OpR X (binaryOp .Mod) (rI (fun _ j => 0 < j) fun i j => .int (i % j)) := opI fun i j _ _ _ _ _ hc q => by
  have h1 : (0 : Int) < j := hc
  exact mod_int' (by omega) (by rw [Int.fmod_eq_emod_of_nonneg i (by omega)]; exact q)
theorem op_pow : OpR X (binaryOp .Pow) (rI CPow fun i j => .int (i ^ j.toNat)) := opI fun _ _ _ _ _ _ _ hc q => pow_int_small hc.1 hc.2.1 hc.2.2 q
theorem unI {f : Value → Sem Value} {g : Int → Int}
    (rule : ∀ (i : Int) (t : Tok) (s : Shared) (Q : Value → Shared → Prop) (E : Value → Shared → Prop), Q (.int (g i) s.toks) { s with toks := s.toks + 1 } → wpAny (model X.prog X.w) X.A (f (.int i t)) Q E s) :
    UnR X f (rU fun i => .int (g i)) := by
  intro pins s σ H x v Q I rx h
  obtain ⟨i, rfl, q⟩ := h
  obtain ⟨t, rfl⟩ := rx
  exact rule i t s _ _ ⟨.int (g i), H, I.tok _, ⟨_, rfl⟩, q⟩
theorem un_neg : UnR X (unaryOp .USub) (rU fun i => .int (-i)) := unI fun _ _ _ _ _ q => neg_int q
/-! ### bools among ints: n += (a < b) -/
end

/-! ### comparisons -/
/-- the scalars that == tells apart as data does -/
noncomputable def scal : V → V → Bool
  | .non, .non => true | .non, .int _ => true | .int _, .non => true | .non, .bl _ => true | .bl _, .non => true | .non, .str _ => true | .str _, .non => true
  | .int _, .int _ => true | .bl _, .bl _ => true | .str _, .str _ => true | .byt _, .byt _ => true
  | .int _, .str _ => true | .str _, .int _ => true | .bl _, .str _ => true | .str _, .bl _ => true
  | _, _ => false
noncomputable def rEq : R2 := fun x y H Q => scal x y = true ∧ Q (.bl (decide (x = y))) H
noncomputable def rNe : R2 := fun x y H Q => scal x y = true ∧ Q (.bl (!decide (x = y))) H

theorem dec_int {i j : Int} : decide (V.int i = V.int j) = (i == j) := by
  rw [Bool.eq_iff_iff]
  simp
theorem dec_bl {i j : Bool} : decide (V.bl i = V.bl j) = (i == j) := by
  rw [Bool.eq_iff_iff]
  simp
theorem dec_str {i j : Str} : decide (V.str i = V.str j) = (i == j) := by
  rw [Bool.eq_iff_iff]
  simp
theorem dec_byt {i j : Array UInt8} : decide (V.byt i = V.byt j) = (i.toList == j.toList) := by
  rw [Bool.eq_iff_iff]
  cases i
  cases j
  simp

section
variable {X : Cx} {a b c : Expr} {ta tb tc : TE} {pos : Pos}
theorem fin_bl {pins : List (Addr × Obj)} {σ : St} {H : Hp} {s : Shared} {Q : VK} {k k' : Bool} (I : Inv X pins σ H s) (q : Q (.bl k) H) (e : k = k') : EP X pins σ Q (.bool k') s := by
  subst e
  exact ⟨.bl k, H, I, rfl, q⟩
theorem op_eq : OpR X (compareOp .Eq) rEq := by
  intro pins s σ H x y v u Q I rx ry h
  obtain ⟨hs, q⟩ := h
  cases x with
  | non =>
    cases rx
    cases y with
    | non => cases ry; exact PySem.EqNone.eq_none_none (fin_bl I q (by simp))
    | bl j => cases ry; exact PySem.EqNone.eq_none_bool (fin_bl I q (by simp))
    | int j => obtain ⟨t', rfl⟩ := ry; exact PySem.EqNone.eq_none_int (fin_bl I q (by simp))
    | str j => obtain ⟨t', rfl⟩ := ry; exact PySem.EqNone.eq_none_str (fin_bl I q (by simp))
    | _ => exact absurd (show false = true from hs) Bool.false_ne_true
  | bl i =>
    cases rx
    cases y with
    | non => cases ry; exact PySem.EqNone.eq_bool_none (fin_bl I q (by simp))
    | bl j => cases ry; exact eq_bool (fin_bl I q dec_bl)
    | str j => obtain ⟨t', rfl⟩ := ry; exact PySem.EqMixed.eq_bool_str (fin_bl I q (by simp))
    | _ => exact absurd (show false = true from hs) Bool.false_ne_true
  | int i =>
    obtain ⟨t, rfl⟩ := rx
    cases y with
    | non => cases ry; exact PySem.EqNone.eq_int_none (fin_bl I q (by simp))
    | int j => obtain ⟨t', rfl⟩ := ry; exact eq_int (fin_bl I q dec_int)
    | str j => obtain ⟨t', rfl⟩ := ry; exact PySem.EqMixed.eq_int_str (fin_bl I q (by simp))
    | _ => exact absurd (show false = true from hs) Bool.false_ne_true
  | str i =>
    obtain ⟨t, rfl⟩ := rx
    cases y with
    | non => cases ry; exact PySem.EqNone.eq_str_none (fin_bl I q (by simp))
    | bl j => cases ry; exact PySem.EqMixed.eq_str_bool (fin_bl I q (by simp))
    | int j => obtain ⟨t', rfl⟩ := ry; exact PySem.EqMixed.eq_str_int (fin_bl I q (by simp))
    | str j => obtain ⟨t', rfl⟩ := ry; exact eq_str (fin_bl I q dec_str)
    | _ => exact absurd (show false = true from hs) Bool.false_ne_true
  | byt i =>
    obtain ⟨t, rfl⟩ := rx
    cases y with
    | byt j => obtain ⟨t', rfl⟩ := ry; exact PySem.W.eq_bytes (fin_bl I q dec_byt)
    | _ => exact absurd (show false = true from hs) Bool.false_ne_true
  | _ => cases y <;> exact absurd (show false = true from hs) Bool.false_ne_true
theorem op_ne : OpR X (compareOp .NotEq) rNe := by
  intro pins s σ H x y v u Q I rx ry h
  obtain ⟨hs, q⟩ := h
  cases x with
  | non =>
    cases rx
    cases y with
    | non => cases ry; exact PySem.EqNone.ne_none_none (fin_bl I q (by simp))
    | bl j => cases ry; exact PySem.EqNone.ne_none_bool (fin_bl I q (by simp))
    | int j => obtain ⟨t', rfl⟩ := ry; exact PySem.EqNone.ne_none_int (fin_bl I q (by simp))
    | str j => obtain ⟨t', rfl⟩ := ry; exact PySem.EqNone.ne_none_str (fin_bl I q (by simp))
    | _ => exact absurd (show false = true from hs) Bool.false_ne_true
  | bl i =>
    cases rx
    cases y with
    | non => cases ry; exact PySem.EqNone.ne_bool_none (fin_bl I q (by simp))
    | bl j => cases ry; exact ne_bool (fin_bl I q (congrArg not dec_bl))
    | str j => obtain ⟨t', rfl⟩ := ry; exact PySem.EqMixed.ne_bool_str (fin_bl I q (by simp))
    | _ => exact absurd (show false = true from hs) Bool.false_ne_true
  | int i =>
    obtain ⟨t, rfl⟩ := rx
    cases y with
    | non => cases ry; exact PySem.EqNone.ne_int_none (fin_bl I q (by simp))
    | int j => obtain ⟨t', rfl⟩ := ry; exact ne_int (fin_bl I q (congrArg not dec_int))
    | str j => obtain ⟨t', rfl⟩ := ry; exact PySem.EqMixed.ne_int_str (fin_bl I q (by simp))
    | _ => exact absurd (show false = true from hs) Bool.false_ne_true
  | str i =>
    obtain ⟨t, rfl⟩ := rx
    cases y with
    | non => cases ry; exact PySem.EqNone.ne_str_none (fin_bl I q (by simp))
    | bl j => cases ry; exact PySem.EqMixed.ne_str_bool (fin_bl I q (by simp))
    | int j => obtain ⟨t', rfl⟩ := ry; exact PySem.EqMixed.ne_str_int (fin_bl I q (by simp))
    | str j => obtain ⟨t', rfl⟩ := ry; exact ne_str (fin_bl I q (congrArg not dec_str))
    | _ => exact absurd (show false = true from hs) Bool.false_ne_true
  | byt i =>
    obtain ⟨t, rfl⟩ := rx
    cases y with
    | byt j => obtain ⟨t', rfl⟩ := ry; exact PySem.W.ne_bytes (fin_bl I q (congrArg not dec_byt))
    | _ => exact absurd (show false = true from hs) Bool.false_ne_true
  | _ => cases y <;> exact absurd (show false = true from hs) Bool.false_ne_true

theorem op_lt : OpR X (compareOp .Lt) (rI0 fun i j => .bl (decide (i < j))) := opB0 fun _ _ _ _ _ _ _ q => lt_int q
theorem op_gt : OpR X (compareOp .Gt) (rI0 fun i j => .bl (decide (j < i))) := opB0 fun _ _ _ _ _ _ _ q => gt_int q
/-- the one string within the other -/
theorem op_in_str : OpR X (compareOp .In) (fun x y H Q => ∃ i j, x = .str i ∧ y = .str j ∧ Q (.bl (!(Builtin.Str.occurrences j i 0 j.length 1).isEmpty)) H) := by
  intro pins s σ H x y v u Q I rx ry h
  obtain ⟨i, j, rfl, rfl, q⟩ := h
  obtain ⟨t, rfl⟩ := rx
  obtain ⟨t', rfl⟩ := ry
  exact in_str (fin_bl I q rfl)

/-- is None, is not None: the right side a value none -/
theorem op_isN : OpR X (compareOp .Is) (fun x y H Q => y = .non ∧ Q (.bl (decide (x = .non))) H) := by
  intro pins s σ H x y v u Q I rx ry h
  obtain ⟨rfl, q⟩ := h
  cases ry
  refine is_none_gen (fin_bl I q ?_)
  cases x <;> first
    | (cases rx; rfl)
    | (obtain ⟨t, rfl⟩ := rx; rfl)
theorem op_notin_str : OpR X (compareOp .NotIn) (fun x y H Q => ∃ i j, x = .str i ∧ y = .str j ∧ Q (.bl (!(!(Builtin.Str.occurrences j i 0 j.length 1).isEmpty))) H) := by
  intro pins s σ H x y v u Q I rx ry h
  obtain ⟨i, j, rfl, rfl, q⟩ := h
  obtain ⟨t, rfl⟩ := rx
  obtain ⟨t', rfl⟩ := ry
  exact notIn_str (fin_bl I q rfl)
theorem nomark (b : Expr) {op : CmpOp} (h : op ≠ .In := by decide) (h2 : op ≠ .NotIn := by decide) : behindInMarks op b = false := by
  have e1 : (op == CmpOp.In) = false := by cases op <;> first | rfl | exact absurd rfl h
  have e2 : (op == CmpOp.NotIn) = false := by cases op <;> first | rfl | exact absurd rfl h2
  cases b <;> simp [behindInMarks, e1, e2]
/-- a comparison as a value; hm: nomark b, or (for in, not in) by with_unfolding_all rfl -/
theorem pe_cmpR {op : CmpOp} {r : R2} (ho : OpR X (compareOp op) r) (ha : PE X a ta) (hb : PE X b tb) (hm : behindInMarks op b = false) : PE X (.Compare a [op] [b] pos) (tOp r ta tb) := by
  intro pins s σ H Q I h
  exact wpAny_Compare1 (binT ha hb I h fun v u s2 x y H2 I2 rx ry q => ho pins s2 σ H2 x y v u Q I2 rx ry q) hm
/-- a reading of a value as a test -/
noncomputable def tTest (t : TE) : TT := fun σ H Q => t σ H fun x H' => ∃ k, x = .bl k ∧ Q k H'
theorem pt_cmpR {op : CmpOp} {r : R2} (ho : OpR X (compareOp op) r) (ha : PE X a ta) (hb : PE X b tb) (hm : behindInMarks op b = false) : PT X (.Compare a [op] [b] pos) (tTest (tOp r ta tb)) := by
  intro pins s σ H Q I h
  refine wpAny_isTrue_Compare1 (thn (ha pins s σ H _ I h) fun v s1 ⟨x, H1, I1, r1, q1⟩ => thn (hb pins s1 σ H1 _ I1 q1) fun u s2 ⟨y, H2, I2, r2, q2⟩ =>
    thn (ho pins s2 σ H2 x y v u _ I2 r1 r2 q2) fun c s3 ⟨z, H3, I3, r3, k, e, q3⟩ => ?_) hm
  subst e
  cases r3
  exact wpAny_truthy_bool ⟨H3, I3, q3⟩
/-! ### truth -/
/-- a value's truth by the abstract heap -/
noncomputable def TruV (K : PySem.W.Frag) (x : V) (H : Hp) (k : Bool) : Prop :=
  match x with
  | .non => k = false
  | .bl b => k = b
  | .int i => k = (i != 0)
  | .str y => y.length ≤ sizeLine ∧ k = ((y.length : Int) != 0)
  | .byt y => y.size ≤ sizeLine ∧ k = ((y.size : Int) != 0)
  | .ref p => (∃ xs, SqL K H p xs ∧ k = !xs.isEmpty) ∨ (∃ xs, SqT K H p xs ∧ k = !xs.isEmpty) ∨ ∃ kvs, H p = some (.dK kvs) ∧ k = !kvs.isEmpty
  | _ => False
theorem isEmpty_kv {κ : Type} {kvs : List (κ × V)} {vs : List (κ × Value)} (r : KV kvs vs) : (!vs.isEmpty) = !kvs.isEmpty := by
  cases r <;> rfl
theorem isEmpty_of {xs : List V} {its : List Value} (r : Vals xs its) : (!its.toArray.isEmpty) = !xs.isEmpty := by
  cases r <;> simp
theorem line63 : (sizeLine : Nat) < 2 ^ 63 := by rw [sizeLine_eq]; decide
theorem tru_ok : TruR X (fun x H Q => ∃ k, TruV X.K x H k ∧ Q k H) := by
  intro pins s σ H x v Q I rx h
  obtain ⟨k, e, q⟩ := h
  have hl := line63
  have hs : sizeLine = 16777216 := sizeLine_eq
  cases x with
  | non =>
    cases rx
    have e' : k = false := e
    subst e'
    exact truthy_none ⟨H, I, q⟩
  | bl b =>
    cases rx
    have e' : k = b := e
    subst e'
    exact wpAny_truthy_bool ⟨H, I, q⟩
  | int i =>
    obtain ⟨t, rfl⟩ := rx
    have e' : k = (i != 0) := e
    subst e'
    exact PySem.P.truthy_int ⟨H, I, q⟩
  | str y =>
    obtain ⟨t, rfl⟩ := rx
    obtain ⟨hy, e'⟩ : y.length ≤ sizeLine ∧ k = ((y.length : Int) != 0) := e
    subst e'
    exact PySem.P.truthy_str (by omega) ⟨H, I.tok _, q⟩
  | byt y =>
    obtain ⟨t, rfl⟩ := rx
    obtain ⟨hy, e'⟩ : y.size ≤ sizeLine ∧ k = ((y.size : Int) != 0) := e
    subst e'
    exact PySem.W.truthy_bytes (by omega) ⟨H, I.tok _, q⟩
  | ref p =>
    cases rx
    have e' : (∃ xs, SqL X.K H p xs ∧ k = !xs.isEmpty) ∨ (∃ xs, SqT X.K H p xs ∧ k = !xs.isEmpty) ∨ ∃ kvs, H p = some (.dK kvs) ∧ k = !kvs.isEmpty := e
    rcases e' with ⟨xs, hx, e'⟩ | ⟨xs, hx, e'⟩ | ⟨kvs, hx, e'⟩
    · subst e'
      obtain ⟨its, r, pl, hz⟩ := I.list hx
      have hlen := r.length
      exact wpAny_truthy_list pl.isList (by simp only [List.size_toArray]; omega) ⟨H, I.tok _, by rw [isEmpty_of r]; exact q⟩
    · subst e'
      obtain ⟨its, r, pl, hz⟩ := I.tuple hx
      have hlen := r.length
      exact truthy_tuple pl (by simp only [List.size_toArray]; omega) ⟨H, I.tok _, by rw [isEmpty_of r]; exact q⟩
    · subst e'
      obtain ⟨hz, hS, vs, r, m⟩ : kvs.length ≤ sizeLine ∧ (p == sysModules) = false ∧ ∃ vs, KV kvs vs ∧ s.heap.DictOf (mixKind X.prog X.w) p vs := I.hok p _ hx
      have hlen : kvs.length = vs.length := Paired.length r
      exact wpAny_truthy_dict hS m (by omega) ⟨H, I.tok _, by rw [isEmpty_kv r]; exact q⟩
  | _ => exact (show False from e).elim
/-- any expression whose test is its value's truth (a name, a call, a subscript, a field ..: he by fun _ => rfl) -/
theorem pt_truth (ha : PE X a ta) (he : ∀ whole, isTrue a X.env whole = (do let v ← whole; standAt a.pos; holding [v] (truthy v))) :
    PT X a (fun σ H Q => ta σ H fun x H' => ∃ k, TruV X.K x H' k ∧ Q k H') := by
  intro pins s σ H Q I h
  exact isTrue_plain (thn (ha pins s σ H _ I h) fun v s1 ⟨x, H1, I1, r1, q1⟩ => tru_ok pins s1 σ H1 x v Q I1 r1 q1) (he _)

/-! ### strs and bytes -/
theorem op_add_str : OpR X (binaryOp .Add) (fun x y H Q => ∃ i j, x = .str i ∧ y = .str j ∧ i.length + j.length ≤ sizeLine ∧ Q (.str (i ++ j)) H) := by
  intro pins s σ H x y v u Q I rx ry h
  obtain ⟨i, j, rfl, rfl, hz, q⟩ := h
  obtain ⟨t, rfl⟩ := rx
  obtain ⟨t', rfl⟩ := ry
  exact add_str (fun t' tk => ⟨.str (i ++ j), H, I.tok _, ⟨_, rfl⟩, q⟩) hz
/-! ### scalar builtins, by CallR -/
theorem vals1 {x : V} {us : List Value} (r : Vals [x] us) : ∃ u, us = [u] ∧ RelV x u := by
  cases r with
  | cons r1 r2 => cases r2; exact ⟨_, rfl, r1⟩
theorem vals2 {x y : V} {us : List Value} (r : Vals [x, y] us) : ∃ u w', us = [u, w'] ∧ RelV x u ∧ RelV y w' := by
  cases r with
  | cons r1 r2 =>
    cases r2 with
    | cons r3 r4 => cases r4; exact ⟨_, _, rfl, r1, r3⟩
theorem call_min2 (hc : X.calm = true) : CallR X (.builtin "min") (fun xs H Q => ∃ i j, xs = [.int i, .int j] ∧ Q (.int (if j < i then j else i)) H) := by
  intro pins s σ H xs us Q I r h
  obtain ⟨i, j, rfl, q⟩ := h
  obtain ⟨u, w', rfl, ⟨t, rfl⟩, ⟨t', rfl⟩⟩ := vals2 r
  refine min_two_ints (I.ok.hd hc) fun h' tk k => ⟨_, H, I.kept k, ?_, q⟩
  by_cases hj : j < i
  · rw [if_pos hj, if_pos hj]; exact ⟨_, rfl⟩
  · rw [if_neg hj, if_neg hj]; exact ⟨_, rfl⟩
theorem call_int1 : CallR X (.type "int") (fun xs H Q => (∃ i, xs = [.int i] ∧ Q (.int i) H) ∨ ∃ k, xs = [.bl k] ∧ Q (.int (if k then 1 else 0)) H) := by
  intro pins s σ H xs us Q I r h
  rcases h with ⟨i, rfl, q⟩ | ⟨k, rfl, q⟩
  · obtain ⟨u, rfl, t, rfl⟩ := vals1 r
    exact call_int_int ⟨.int i, H, I, ⟨_, rfl⟩, q⟩
  · obtain ⟨u, rfl, r1⟩ := vals1 r
    cases r1
    exact call_int_bool ⟨.int (if k then 1 else 0), H, I.tok _, ⟨_, rfl⟩, q⟩
end
end L2

namespace L2
open PySem PySem.Spec PyProof.Rows

/-! ### an instance, its attributes a map -/
structure ObjM (h : Heap) (x dx C : Addr) (mA : Str → Option Value) : Prop where
  obj : h.get? x = some (PySem.W.instObj C dx)
  ns : h.Ns1 dx mA
  ne : dx ≠ x

theorem lookIn_ns {h : Heap} {dx : Addr} {mA : Str → Option Value} (n : h.Ns1 dx mA) : ∃ od, h.get? dx = some od ∧ ∀ name, PySem.W.lookIn name od = some (mA name) := by
  obtain ⟨o, es, ep, ho, hd, hk, _, hm⟩ := n
  refine ⟨o, ho, fun name => ?_⟩
  have e := hm name
  unfold nsFind findBy at e
  rw [← Array.find?_toList] at e
  unfold PySem.W.lookIn
  rw [hd]
  dsimp only
  split
  · rename_i y q
    rw [q] at e
    exact congrArg some e
  · rename_i q
    rw [q] at e
    have a : es.toList.any (·.refKey) = false := by
      rw [List.any_eq_false]
      intro y hy
      obtain ⟨z, t, hkey⟩ := hk y (Array.mem_toList_iff.mp hy)
      simp [DictEntry.refKey, hkey]
    have a' : ¬ es.toList.any (·.refKey) = true := by rw [a]; exact Bool.false_ne_true
    rw [if_neg a']
    exact congrArg some e

theorem ObjM.look {h : Heap} {x dx C : Addr} {mA : Str → Option Value} (I : ObjM h x dx C mA) : ∃ od, PySem.W.InstAt h x (PySem.W.instObj C dx) C (some od) ∧ ∀ name, PySem.W.lookIn name od = some (mA name) :=
  let ⟨od, ho, hl⟩ := lookIn_ns I.ns
  ⟨od, ⟨I.obj, rfl, rfl, ho⟩, hl⟩

section
variable {prog : Program} {w : World} {A : Around} {E : Value → Shared → Prop} {s : Shared} {K : PySem.W.Frag} {x dx C f : Addr} {mA : Str → Option Value} {name : Str} {v : Value}

theorem get_map {expr : Bool} {Q : Value → Shared → Prop} (X : K.In s.heap) (I : ObjM s.heap x dx C mA) (hg : PySem.W.plainGet K C name = true) (hh : PySem.W.hasDictIn K C = true)
    (ha : PySem.W.findIn K (.ref C) name = some none) (hv : mA name = some v) (hv' : PySem.W.handedIn v = true) (h : Q v { s with toks := s.toks + 1 }) :
    wpAny (model prog w) A (getAttr (.ref x) name expr) Q E s := by
  obtain ⟨od, J, hl⟩ := I.look
  exact PySem.W.get_value X J (PySem.W.plainGet_of hg).1 (PySem.W.findObj_own hh ha rfl (by rw [hl, hv])) hv' h

theorem get_meth {pl : Sem Bool} {Q : Value × List Value → Shared → Prop} (X : K.In s.heap) (I : ObjM s.heap x dx C mA) (hg : PySem.W.plainGet K C name = true)
    (hf : PySem.W.findIn K (.ref C) name = some (some (.ref f))) (ht : PySem.W.isFn K (.ref f) = true) (hv : mA name = none) (h : Q (.ref f, [.ref x]) s) :
    wpAny (model prog w) A (getMethod (.ref x) name pl) Q E s := by
  obtain ⟨od, J, hl⟩ := I.look
  exact PySem.W.method_fn X J (PySem.W.plainGet_of hg).1 (PySem.W.plainGet_of hg).2 hf (beq_iff_eq.mp ht) (by show (PySem.W.lookIn name od).map (·.isSome) = some false; rw [hl, hv]; rfl) h

theorem set_map {ns : List Str} {Q : Unit → Shared → Prop} (X : K.In s.heap) (I : ObjM s.heap x dx C mA)
    (hs : PySem.W.findIn K (.ref C) "__setattr__" = some (some (.builtin "object.__setattr__"))) (hp : PySem.W.plainOver K C = true) (ht : PySem.W.takerIn K C name = some none) (hh : PySem.W.hasDictIn K C = true)
    (hw : PySem.Within mA ns) (hsz : ns.length ≤ sizeLine)
    (h : ∀ h', ObjM h' x dx C (fun y => if y = name then some v else mA y) → Heap.SameBut dx s.heap h' → Q () { s with heap := h', toks := s.toks + 2 }) :
    wpAny (model prog w) A (setAttr (.ref x) name v) Q E s := by
  obtain ⟨od, J, hl⟩ := I.look
  refine PySem.W.set_plain X J hs (PySem.W.osa_open (s := { s with toks := s.toks + 1 }) (r := none) X J hp ht fun b => ?_)
  obtain ⟨cd, hc, hd'⟩ := PySem.W.any_some hh
  have hx : s.heap.get? x = some ⟨.ref C, some dx, .plain, #[]⟩ := I.obj
  refine wpAny_bind (wpAny_pure (wpAny_bind (wpAny_bind (wpAny_loadPart hx (wpAny_bind (PySem.W.Looks.here (s := { s with toks := s.toks + 1 }) (PySem.W.looks_clsIn X hc) ?_))))))
  rw [hd']
  refine wpAny_pure (a := some dx) (wpAny_bind (wpAny_pure (wpAny_bind ?_)))
  refine wpAny_nsSet1 (s := { s with toks := s.toks + 1 }) I.ns fun h' hn2 hs2 => ?_
  obtain ⟨oD, esD, epD, hoD, hdD, hcD⟩ := hn2.count (PySem.Within.cons name v hw)
  refine wpAny_bind (wpAny_lookBehind hoD (by rw [hdD]; exact pastItsLine_dict (Nat.le_trans hcD (by rw [List.length_cons]; omega))) ?_)
  exact wpAny_pure (h _ ⟨(hs2.2 _ (Ne.symm I.ne)).trans I.obj, hn2, I.ne⟩ hs2)

/-- C(..): the dict at the heap's end, the instance behind it; then its __init__ -/
theorem make_map {R : Result → Shared → Prop} {vs : List Value} {kw : List (Str × Value)} (X : K.In s.heap) (hm : PySem.W.makesIn K C = true)
    (hi : PySem.W.findIn K (.ref C) "__init__" = some (some (.ref f))) (hf : PySem.W.typeIn K (.ref f) = some (.type "function"))
    (h : codeAny (model prog w) (A.under (.builtin "type.__call__" ⟨.ref C :: vs, kw⟩)) (.call (.ref f) ⟨.ref (s.heap.objs.size + 1) :: vs, kw⟩) (PySem.W.InitBack (s.heap.objs.size + 1) R)
      { s with heap := (s.heap.push PySem.W.emptyDict).push (PySem.W.instObj C s.heap.objs.size) }) :
    codeAny (model prog w) A (.call (.ref C) ⟨vs, kw⟩) R s := by
  obtain ⟨hh, g, d, t, os⟩ := s
  exact PySem.W.make_core (PySem.W.makes_of X hm) (PySem.W.looks_findIn X hi) (fun self => PySem.W.bind_fn X self hf) (.inl rfl) h
end

/-! ### the attributes as a list of pairs -/
noncomputable def putF (f : Str) (v : V) : List (Str × V) → List (Str × V)
  | [] => [(f, v)]
  | (g, x) :: r => if g = f then (g, v) :: r else (g, x) :: putF f v r
theorem lookup_putF (f g : Str) (v : V) : ∀ fs : List (Str × V), (putF f v fs).lookup g = if g = f then some v else fs.lookup g
  | [] => by
    show List.lookup g [(f, v)] = _
    by_cases h : g = f
    · have hb : (g == f) = true := beq_iff_eq.mpr h
      simp only [List.lookup, hb, if_pos h]
    · have hb : (g == f) = false := beq_eq_false_iff_ne.mpr h
      simp only [List.lookup, hb, if_neg h]
  | (k, x) :: r => by
    have ih := lookup_putF f g v r
    rw [show putF f v ((k, x) :: r) = (if k = f then (k, v) :: r else (k, x) :: putF f v r) from rfl]
    by_cases hk : k = f
    · rw [if_pos hk]
      by_cases h : g = k
      · have hb : (g == k) = true := beq_iff_eq.mpr h
        simp only [List.lookup, hb, if_pos (h.trans hk)]
      · have hb : (g == k) = false := beq_eq_false_iff_ne.mpr h
        simp only [List.lookup, hb, if_neg (fun e : g = f => h (e.trans hk.symm))]
    · rw [if_neg hk]
      by_cases h : g = k
      · have hb : (g == k) = true := beq_iff_eq.mpr h
        simp only [List.lookup, hb, if_neg (fun e : g = f => hk (h.symm.trans e))]
      · have hb : (g == k) = false := beq_eq_false_iff_ne.mpr h
        simp only [List.lookup, hb]
        exact ih
theorem keys_putF (f : Str) (v : V) : ∀ fs : List (Str × V), f ∈ (putF f v fs).map (·.1) ∧ ∀ g, g ∈ fs.map (·.1) → g ∈ (putF f v fs).map (·.1)
  | [] => ⟨by simp [putF], fun g h => by simp at h⟩
  | (k, x) :: r => by
    obtain ⟨i1, i2⟩ := keys_putF f v r
    rw [show putF f v ((k, x) :: r) = (if k = f then (k, v) :: r else (k, x) :: putF f v r) from rfl]
    by_cases hk : k = f
    · rw [if_pos hk]
      subst hk
      exact ⟨by simp, fun g h => by simpa using h⟩
    · rw [if_neg hk]
      refine ⟨?_, fun g h => ?_⟩
      · rw [List.map_cons]
        exact List.mem_cons_of_mem _ i1
      · rw [List.map_cons] at h ⊢
        rcases List.mem_cons.mp h with e | e
        · exact List.mem_cons.mpr (.inl e)
        · exact List.mem_cons_of_mem _ (i2 g e)
theorem length_putF (f : Str) (v : V) : ∀ fs : List (Str × V), (putF f v fs).length ≤ fs.length + 1
  | [] => by simp [putF]
  | (k, x) :: r => by
    have ih := length_putF f v r
    rw [show putF f v ((k, x) :: r) = (if k = f then (k, v) :: r else (k, x) :: putF f v r) from rfl]
    by_cases hk : k = f
    · rw [if_pos hk, List.length_cons, List.length_cons]; omega
    · rw [if_neg hk, List.length_cons, List.length_cons]; omega

theorem RelO.some_of {v : V} {o : Option Value} (r : RelO (some v) o) : ∃ u, o = some u ∧ RelV v u := by
  cases o with
  | none => exact (show False from r).elim
  | some u => exact ⟨u, rfl, r⟩
theorem RelO.none_of {o : Option Value} (r : RelO none o) : o = none := by
  cases o with
  | none => rfl
  | some u => exact (show False from r).elim
theorem handed_of {v : V} {u : Value} (r : RelV v u) : PySem.W.handedIn u = true := by
  cases v with
  | non => cases (show u = Value.none from r); rfl
  | bl b => cases (show u = Value.bool b from r); rfl
  | int i => obtain ⟨t, e⟩ := (show ∃ t, u = Value.int i t from r); cases e; rfl
  | str x => obtain ⟨t, e⟩ := (show ∃ t, u = Value.str x t from r); cases e; rfl
  | byt b => obtain ⟨t, e⟩ := (show ∃ t, u = Value.bytes b t from r); cases e; rfl
  | flt b => obtain ⟨t, e⟩ := (show ∃ t, u = Value.float b t from r); cases e; rfl
  | ref a => cases (show u = Value.ref a from r); rfl
  | ty n => cases (show u = Value.type n from r); rfl

section
variable {P : Program} {w : World} {H H' : Hp} {h h' : Heap} {a C dx : Addr} {fs fs' : List (Str × V)}
theorem ins_get (hok : HOk P w H h) (e : H a = some (.ins C dx fs)) : ∃ mA, ObjM h a dx C mA ∧ (∀ f, RelO (fs.lookup f) (mA f)) ∧ PySem.Within mA (fs.map (·.1)) ∧ fs.length ≤ 1000 ∧ H dx = some (.own a) := by
  obtain ⟨d, z, ne, ob, mA, n, r, q⟩ := (show ObjOk P w H h a (.ins C dx fs) from hok a _ e)
  exact ⟨mA, ⟨ob, n, ne⟩, r, q, z, d⟩
end

/-! ### what of the text a class must have -/
structure Cls (K : PySem.W.Frag) (C : Addr) : Prop where
  pg : PySem.W.plainGet K C Str.empty = true
  hd : PySem.W.hasDictIn K C = true
  po : PySem.W.plainOver K C = true
  sa : PySem.W.findIn K (.ref C) "__setattr__" = some (some (.builtin "object.__setattr__"))
theorem Cls.get {K : PySem.W.Frag} {C : Addr} (c : Cls K C) (f : Str) : PySem.W.plainGet K C f = true := c.pg
/-- no class of it has the name -/
noncomputable def NoAttr (K : PySem.W.Frag) (C : Addr) (f : Str) : Prop := PySem.W.findIn K (.ref C) f = some none
theorem NoAttr.taker {K : PySem.W.Frag} {C : Addr} {f : Str} (n : NoAttr K C f) : PySem.W.takerIn K C f = some none := by
  unfold PySem.W.takerIn
  rw [show PySem.W.findIn K (.ref C) f = some none from n]
  rfl
/-- a method: a plain def of the class or of one above it -/
structure Meth (K : PySem.W.Frag) (C : Addr) (m : Str) (f : Addr) : Prop where
  at_ : PySem.W.findIn K (.ref C) m = some (some (.ref f))
  fn : PySem.W.isFn K (.ref f) = true
  kp : PySem.W.keepIn K (.ref f) = true

section
variable {X : Cx} {pins : List (Addr × Obj)} {σ : St} {H : Hp} {s : Shared} {a C dx : Addr} {fs : List (Str × V)} {f : Str} {v : V} {A : Around} {E : Value → Shared → Prop}

theorem getattr_ok {b : Bool} {Q : Value → Shared → Prop} (I : Inv X pins σ H s) (e : H a = some (.ins C dx fs)) (c : Cls X.K C) (n : NoAttr X.K C f) (l : fs.lookup f = some v)
    (h : ∀ u s', Inv X pins σ H s' → RelV v u → Q u s') : wpAny (model X.prog X.w) A (getAttr (.ref a) f b) Q E s := by
  obtain ⟨mA, O, r, _, _, _⟩ := ins_get I.hok e
  obtain ⟨u, hu, ru⟩ := RelO.some_of (v := v) (o := mA f) (by rw [← l]; exact r f)
  exact get_map I.kIn O (c.get f) c.hd n hu (handed_of ru) (h u _ (I.tok _) ru)

theorem getmeth_ok {m : Str} {g : Addr} {pl : Sem Bool} {Q : Value × List Value → Shared → Prop} (I : Inv X pins σ H s) (e : H a = some (.ins C dx fs)) (c : Cls X.K C) (k : Meth X.K C m g) (l : fs.lookup m = none)
    (h : Q (.ref g, [.ref a]) s) : wpAny (model X.prog X.w) A (getMethod (.ref a) m pl) Q E s := by
  obtain ⟨mA, O, r, _, _, _⟩ := ins_get I.hok e
  have hn : mA m = none := RelO.none_of (by rw [← l]; exact r m)
  exact get_meth I.kIn O (c.get m) k.at_ k.fn hn h

theorem setattr_ok {y : V} {u : Value} {Q : Unit → Shared → Prop} (I : Inv X pins σ H s) (e : H a = some (.ins C dx fs)) (c : Cls X.K C) (n : NoAttr X.K C f) (hl : fs.length < 1000) (ry : RelV y u)
    (h : ∀ s', Inv X pins σ (upd H a (.ins C dx (putF f y fs))) s' → Q () s') : wpAny (model X.prog X.w) A (setAttr (.ref a) f u) Q E s := by
  obtain ⟨mA, O, r, wi, _, ho⟩ := ins_get I.hok e
  have hz : (fs.map (·.1)).length ≤ sizeLine := by rw [List.length_map, sizeLine_eq]; omega
  refine set_map I.kIn O c.sa c.po n.taker c.hd wi hz fun h' O' sb => h _ ?_
  have hd : ∃ o, h'.get? dx = some o := let ⟨o, _, _, e', _⟩ := O'.ns; ⟨o, e'⟩
  refine I.write (x := a) (e := dx) (by rw [e]; exact True.intro) (.inr ho) (fun b q hb z => (sb.2 b hb).trans z) hd ?_
  refine ⟨by rw [upd_ne O.ne]; exact ho, ?_, O.ne, O'.obj, _, O'.ns, fun g => ?_, fun g hg => ?_⟩
  · have := length_putF f y fs; omega
  · show RelO ((putF f y fs).lookup g) (if g = f then some u else mA g)
    rw [lookup_putF]
    by_cases q : g = f
    · rw [if_pos q, if_pos q]; exact ry
    · rw [if_neg q, if_neg q]; exact r g
  · by_cases q : g = f
    · rw [q]; exact (keys_putF f y fs).1
    · refine (keys_putF f y fs).2 g (wi g fun z => hg ?_)
      show (if g = f then some u else mA g) = none
      rw [if_neg q]; exact z

/-- a new instance, tracked, without attributes -/
theorem Inv.made (I : Inv X pins σ H s) : Inv X pins σ (upd (upd H s.heap.objs.size (.own (s.heap.objs.size + 1))) (s.heap.objs.size + 1) (.ins C s.heap.objs.size []))
    { s with heap := (s.heap.push PySem.W.emptyDict).push (PySem.W.instObj C s.heap.objs.size) } := by
  have e1 : (s.heap.push PySem.W.emptyDict).get? s.heap.objs.size = some PySem.W.emptyDict := Heap.get?_push_size s.heap rfl
  have e2 : ((s.heap.push PySem.W.emptyDict).push (PySem.W.instObj C s.heap.objs.size)).get? (s.heap.objs.size + 1) = some (PySem.W.instObj C s.heap.objs.size) := by
    have := Heap.get?_push_size (s.heap.push PySem.W.emptyDict) (o := PySem.W.instObj C s.heap.objs.size) rfl
    rwa [Heap.size_push] at this
  have e3 : (s.heap.push PySem.W.emptyDict).Ns s.heap.objs.size (fun _ => none) := ⟨PySem.W.emptyDict, #[], _, e1, rfl, (fun e he => absurd he (by simp)), fun _ => rfl⟩
  have I1 := I.laid (a := s.heap.objs.size) (o := .own (s.heap.objs.size + 1)) (h' := s.heap.push PySem.W.emptyDict) (t' := s.toks) (fun b u q => Heap.get?_push_of_some _ q) (Nat.le_refl _) ⟨_, e1⟩
  refine I1.laid (a := s.heap.objs.size + 1) (o := .ins C s.heap.objs.size []) (t' := s.toks) (fun b u q => Heap.get?_push_of_some _ q) (Nat.le_of_eq (Heap.size_push _ _)) ?_
  have ne : s.heap.objs.size ≠ s.heap.objs.size + 1 := Nat.ne_of_lt (Nat.lt_succ_self _)
  refine ⟨by rw [upd_ne ne, upd_same], Nat.zero_le _, ne, e2, fun _ => none, (Heap.Ns1.of_empty e3).at fun o q => Heap.get?_push_of_some _ q, fun _ => True.intro, fun y hy => absurd rfl hy⟩

/-- e.f where nothing but the object is asked: through attributeBase (super) and the last hold -/
theorem attr_of {prog : Program} {w : World} {env : Env} {e : Expr} {f : Str} {pos : Pos} {s : Shared} {Q : Value → Shared → Prop} (hb : attributeBase e f env (eval e env) = eval e env)
    (h : wpAny (model prog w) A (eval e env) (fun o s₁ => wpAny (model prog w) A (getAttr o f true) Q E s₁) E s) : wpAny (model prog w) A (eval (.Attribute e f pos) env) Q E s :=
  Attribute_any_ h (by rw [arm_eval_Attribute, hb])
end

/-! ### readings and rules -/
/-- e.f, an attribute of the instance -/
noncomputable def tFld (K : PySem.W.Frag) (ta : TE) (f : Str) : TE := fun σ H Q => ta σ H fun x H1 => ∃ a C dx fs v, x = .ref a ∧ H1 a = some (.ins C dx fs) ∧ Cls K C ∧ NoAttr K C f ∧ fs.lookup f = some v ∧ Q v H1
/-- e.f = value -/
noncomputable def sFld (K : PySem.W.Frag) (ta tv : TE) (f : Str) : TS := fun D σ H => tv σ H fun y H1 => ta σ H1 fun x H2 => ∃ a C dx fs, x = .ref a ∧ H2 a = some (.ins C dx fs) ∧ Cls K C ∧ NoAttr K C f ∧ fs.length < 1000 ∧
  D.nx σ (upd H2 a (.ins C dx (putF f y fs)))
section
variable {X : Cx} {o e value : Expr} {f : Str} {pos pos' tpos : Pos} {ta tv : TE}
theorem pe_fld (he : PE X e ta) (hb : attributeBase e f X.env (eval e X.env) = eval e X.env) : PE X (.Attribute e f pos) (tFld X.K ta f) := by
  intro pins s σ H Q I h
  refine attr_of hb (thn (he pins s σ H _ I h) fun u s1 ⟨x, H1, I1, rx, a, C, dx, fs, v, ex, ea, c, n, l, q⟩ => ?_)
  subst ex
  obtain rfl : u = Value.ref a := rx
  exact getattr_ok I1 ea c n l fun u' s2 I2 ru => ⟨v, H1, I2, ru, q⟩
theorem ps_fld (ha : PE X o ta) (hv : PE X value tv) (hs : swapsWith value (some (.Attribute o f pos')) pos.line X.env = pure false) : PS X (.Assign [.Attribute o f pos'] value pos) (sFld X.K ta tv f) := by
  intro pins s σ H D I h
  refine plainObj_wpAny_Assign_Attribute (thn (hv pins s σ H _ I h) fun u s1 ⟨y, H1, I1, ry, q⟩ => thn (ha pins s1 σ H1 _ I1 q) fun ov s2 ⟨x, H2, I2, rx, a, C, dx, fs, ex, ea, c, n, l, q2⟩ => ?_) hs
  subst ex
  obtain rfl : ov = Value.ref a := rx
  exact setattr_ok I2 ea c n l ry fun s3 I3 => ⟨σ, _, I3, q2⟩
end

/-! ### isinstance -/
section
variable {X : Cx} {pins : List (Addr × Obj)} {σ : St} {H : Hp} {s : Shared} {A : Around} {E : Value → Shared → Prop} {Q : Value → Shared → Prop} {c : Value} {b : Bool}
/-- the type of a value, as the fragment's deciders take it; for an instance its class -/
inductive TyOf (K : PySem.W.Frag) (H : Hp) : V → Value → Prop where
  | non : TyOf K H .non (.type "NoneType")
  | bl (x : Bool) : TyOf K H (.bl x) (.type "bool")
  | int (i : Int) : TyOf K H (.int i) (.type "int")
  | str (x : Str) : TyOf K H (.str x) (.type "str")
  | flt (x : UInt64) : TyOf K H (.flt x) (.type "float")
  | lst {a : Addr} {xs : List V} (e : H a = some (.lst xs)) : TyOf K H (.ref a) (.type "list")
  | frz {a : Addr} {o : Obj} {xs : List V} (e : H a = some (.frz o (.lst xs))) : TyOf K H (.ref a) (.type "list")
  | tup {a : Addr} {xs : List V} (e : H a = some (.tup xs)) : TyOf K H (.ref a) (.type "tuple")
  | dK {a : Addr} {kvs : List (Key × V)} (e : H a = some (.dK kvs)) : TyOf K H (.ref a) (.type "dict")
  | dT {a : Addr} {kvs : List (List Key × V)} (e : H a = some (.dT kvs)) : TyOf K H (.ref a) (.type "dict")
  | ins {a C dx : Addr} {fs : List (Str × V)} (e : H a = some (.ins C dx fs)) (cl : Cls K C) (ha : PySem.W.findIn K (.ref C) "__class__" = some (some (.builtin "object.__class__")))
      (hn : PySem.W.specialIn K (.builtin "object.__class__") "__get__" = some (some (.builtin "getset_descriptor.__get__"))) (htk : PySem.W.takesIn K (.builtin "object.__class__") = some true)
      (hm : PySem.W.mroIn K C (.type "object") = some true) : TyOf K H (.ref a) (.ref C)
/-- isinstance(x, c) for one class c, a built-in or an own one: kitOne's answer -/
theorem isinst_ok {x : V} {u t : Value} (I : Inv X pins σ H s) (rx : RelV x u) (ty : TyOf X.K H x t) (e : PySem.W.kitOne X.K t c = some b) (h : ∀ tk, Q (.bool b) { s with toks := tk }) :
    wpAny (model X.prog X.w) A (call (.builtin "isinstance") [u, c]) Q E s := by
  cases ty with
  | non => cases (show u = Value.none from rx); exact PySem.W.kia_one PySem.W.kitx_none I.kIn True.intro e (fun z => nomatch z) h
  | bl y => cases (show u = Value.bool y from rx); exact PySem.W.kia_one PySem.W.kitx_bool I.kIn True.intro e (fun z => nomatch z) h
  | int i => obtain ⟨t, q⟩ := (show ∃ t, u = Value.int i t from rx); cases q; exact PySem.W.kia_one PySem.W.kitx_int I.kIn True.intro e (fun z => nomatch z) h
  | str y => obtain ⟨t, q⟩ := (show ∃ t, u = Value.str y t from rx); cases q; exact PySem.W.kia_one PySem.W.kitx_str I.kIn True.intro e (fun z => nomatch z) h
  | flt y => obtain ⟨t, q⟩ := (show ∃ t, u = Value.float y t from rx); cases q; exact PySem.W.kia_one PySem.W.kitx_float I.kIn True.intro e (fun z => nomatch z) h
  | @lst a xs ea =>
    cases (show u = Value.ref a from rx)
    obtain ⟨_, _, n, _, h1⟩ := (show ObjOk X.prog X.w H s.heap a (.lst xs) from I.hok a _ ea)
    exact PySem.W.kia_one PySem.W.kitx_list I.kIn ⟨_, h1, rfl⟩ e (fun z => nomatch z) h
  | @frz a ob xs ea =>
    cases (show u = Value.ref a from rx)
    obtain ⟨_, _, _, n, _, h1⟩ := (show ObjOk X.prog X.w H s.heap a (.frz ob (.lst xs)) from I.hok a _ ea)
    exact PySem.W.kia_one PySem.W.kitx_list I.kIn ⟨_, h1, rfl⟩ e (fun z => nomatch z) h
  | @tup a xs ea =>
    cases (show u = Value.ref a from rx)
    obtain ⟨_, _, _, p⟩ := (show ObjOk X.prog X.w H s.heap a (.tup xs) from I.hok a _ ea)
    obtain ⟨o, h1, h2, _⟩ := p
    exact PySem.W.kia_one PySem.W.kitx_tuple I.kIn ⟨o, h1, h2⟩ e (fun z => nomatch z) h
  | @dK a kvs ea =>
    cases (show u = Value.ref a from rx)
    obtain ⟨_, _, vs, _, p⟩ := (show ObjOk X.prog X.w H s.heap a (.dK kvs) from I.hok a _ ea)
    obtain ⟨o, es, ep, h1, h2, _⟩ := p
    exact PySem.W.kia_one PySem.W.kitx_dict I.kIn ⟨o, h1, h2.1⟩ e (fun z => nomatch z) h
  | @dT a kvs ea =>
    cases (show u = Value.ref a from rx)
    obtain ⟨_, _, xs, _, o, es, ep, h1, h2, _⟩ := (show ObjOk X.prog X.w H s.heap a (.dT kvs) from I.hok a _ ea)
    exact PySem.W.kia_one PySem.W.kitx_dict I.kIn ⟨o, h1, h2.1⟩ e (fun z => nomatch z) h
  | @ins a C dx fs ea cl ha hn htk hm =>
    cases (show u = Value.ref a from rx)
    obtain ⟨mA, O, _⟩ := ins_get I.hok ea
    obtain ⟨od, J, _⟩ := O.look
    exact PySem.W.kia_one (PySem.W.kitx_own (cl.get _) cl.hd ha hn htk hm) I.kIn J e (fun z => nomatch z) h
end
end L2

namespace L2
open PySem PySem.Spec PyProof.Rows

/-! ### room -/
structure Room (k : Nat) (A : Around) : Prop where
  hd : A.handled = none
  dp : A.depth + 3 * k + 5 < recursionLimit
  un : A.units + 16 * k + 200 < cLine
  gd : A.guards = some []
theorem Room.mono {j k : Nat} {A : Around} (r : Room k A) (h : j ≤ k) : Room j A := ⟨r.hd, by have := r.dp; omega, by have := r.un; omega, r.gd⟩
theorem Room.deeper {k : Nat} {A : Around} (r : Room (k + 1) A) (env : Env) : Room k (A.deeper env) :=
  ⟨r.hd, by have := r.dp; show A.depth + 1 + 3 * k + 5 < _; omega, by have := r.un; show A.units + 3 + 16 * k + 200 < _; omega, r.gd⟩
theorem make_depth {A : Around} {C : Addr} {us : List Value} {kw : List (Str × Value)} : (A.under (.builtin "type.__call__" ⟨.ref C :: us, kw⟩)).depth = A.depth + 1 := by
  first | rfl | simp [Around.under, Code.weight, Code.isCreation, Code.isGuard, Code.isCaller, Code.frames, Code.isFrame, guardIds]
theorem make_units {A : Around} {C : Addr} {us : List Value} {kw : List (Str × Value)} : (A.under (.builtin "type.__call__" ⟨.ref C :: us, kw⟩)).units = A.units + 1 := by
  first | rfl | simp [Around.under, Code.cUnits, Code.frames, Code.isFrame]
theorem make_guards {A : Around} {C : Addr} {us : List Value} {kw : List (Str × Value)} : (A.under (.builtin "type.__call__" ⟨.ref C :: us, kw⟩)).guards = pushGuards [] A.guards := by
  first | rfl | simp [Around.under, Code.guards, Code.isGuard, guardIds]
theorem Room.make {k : Nat} {A : Around} (r : Room (k + 1) A) (C : Addr) (us : List Value) (kw : List (Str × Value)) : Room k (A.under (.builtin "type.__call__" ⟨.ref C :: us, kw⟩)) :=
  ⟨r.hd, by have := r.dp; rw [make_depth]; omega, by have := r.un; rw [make_units]; omega, by rw [make_guards, r.gd]; rfl⟩
theorem Room.depth {k : Nat} {A : Around} (r : Room k A) : A.depth < recursionLimit := by have := r.dp; omega
theorem Room.units {k : Nat} {A : Around} (r : Room k A) : A.units + 64 < cLine := by have := r.un; omega
theorem Room.units0 {k : Nat} {A : Around} (r : Room k A) : A.units < cLine := by have := r.un; omega

/-! ### argument lists and displays -/
noncomputable def tNil : TA := fun _ H Q => Q [] H
noncomputable def tCons (ta : TE) (tr : TA) : TA := fun σ H Q => ta σ H fun x H1 => tr σ H1 fun xs H2 => Q (x :: xs) H2
section
variable {X : Cx} {e : Expr} {es : List Expr} {te : TE} {t : TA} {pos : Pos}
theorem pa_nil : PA X [] tNil := fun _ _ _ _ H Q I h => Calls.spliced_nil ⟨[], H, I, .nil, h⟩
theorem pa_cons (ha : PE X e te) (hr : PA X es t) (hs : starEach (e :: es) X.env = (false, eval e X.env) :: starEach es X.env := by exact star_of rfl) : PA X (e :: es) (tCons te t) := by
  intro pos pins s σ H Q I h
  rw [hs]
  show wpAny _ _ (spliced ((false, eval e X.env) :: backTo pos (starEach es X.env))) _ _ s
  refine Calls.spliced_cons (thn (ha pins s σ H _ I h) fun u s1 ⟨x, H1, I1, r1, q1⟩ => ?_)
  exact thn (hr pos pins s1 σ H1 _ I1 q1) fun us s2 ⟨xs, H2, I2, r2, q2⟩ => ⟨x :: xs, H2, I2, .cons r1 r2, q2⟩

/-- a tuple, a list of written items -/
noncomputable def tTup (t : TA) : TE := fun σ H Q => t σ H fun xs H1 => xs.length ≤ sizeLine ∧ ∀ p, H1 p = none → Q (.ref p) (upd H1 p (.tup xs))
noncomputable def tLst (t : TA) : TE := fun σ H Q => t σ H fun xs H1 => xs.length ≤ sizeLine ∧ ∀ p, H1 p = none → Q (.ref p) (upd H1 p (.lst xs))
theorem pe_tup {x1} (h : PA X es t) : PE X (.Tuple es x1 pos) (tTup t) := by
  intro pins s σ H Q I hq
  refine wpAny_Tuple_spliced (thn (h pos pins s σ H _ I hq) fun us s1 ⟨xs, H1, I1, r, z, q⟩ => ⟨by rw [← r.length]; exact z, ?_⟩)
  have hf : H1 s1.heap.objs.size = none := I1.hok.fresh (Nat.le_refl _)
  refine ⟨.ref s1.heap.objs.size, upd H1 s1.heap.objs.size (.tup xs), I1.laid (t' := s1.toks) (fun b u e => Heap.get?_push_of_some _ e) (Nat.le_refl _) ?_, rfl, q _ hf⟩
  exact ⟨z, us, r, ⟨_, Heap.get?_push_size _ rfl, rfl, _, rfl⟩⟩
theorem pe_lst (h : PA X es t) : PE X (.List es pos) (tLst t) := by
  intro pins s σ H Q I hq
  refine wpAny_List_spliced (thn (h pos pins s σ H _ I hq) fun us s1 ⟨xs, H1, I1, r, z, q⟩ => ⟨by rw [← r.length]; exact z, ?_⟩)
  have hf : H1 s1.heap.objs.size = none := I1.hok.fresh (Nat.le_refl _)
  refine ⟨.ref s1.heap.objs.size, upd H1 s1.heap.objs.size (.lst xs), I1.laid (t' := s1.toks) (fun b u e => Heap.get?_push_of_some _ e) (Nat.le_refl _) ?_, rfl, q _ hf⟩
  exact ⟨z, us, 0, r, Heap.get?_push_size _ rfl⟩
end

/-! ### what a def promises -/
/-- a def's promise: the bound arguments in the parameters' order, the heap, the wanted end, the wanted exception -/
noncomputable abbrev Sp := List V → Hp → VK → XK → Prop
/-- how an exception lies behind a call (file 08 gives it): the callers' frames, abstract heap and state ahead of the call, the wish, the exception, the state -/
noncomputable abbrev CXT := List Env → Hp → Shared → XK → Value → Shared → Prop

/-- the state at a call -/
structure Env0 (P : Program) (w : World) (K : PySem.W.Frag) (mg : Str → Option Value) (base : Heap) (A : Around) (outer : List Env) (s : Shared) (H : Hp) : Prop where
  frames : A.frames = some outer
  mod : Mod K mg base
  bs : ∀ b o, base.get? b = some o → s.heap.get? b = some o ∧ H b = none
  bsz : base.objs.size ≤ s.heap.objs.size
  funs : s.heap.FunFrames base outer
  frf : ∀ b ∈ frs outer, H b = none
  hok : HOk P w H s.heap
  bare : AllBare s.gens
/-- a call's end -/
noncomputable def CE (outer : List Env) (P : Program) (w : World) (H : Hp) (s : Shared) (Q : VK) (u : Value) (s' : Shared) : Prop :=
  ∃ v H', s'.os = s.os ∧ AllBare s'.gens ∧ Un (frs outer) [] H H' s.heap s'.heap ∧ HOk P w H' s'.heap ∧ RelV v u ∧ Q v H'
noncomputable def CR (CX : CXT) (outer : List Env) (P : Program) (w : World) (H : Hp) (s : Shared) (Q : VK) (E : XK) (r : Result) (s' : Shared) : Prop :=
  match r with
  | .ok (.ret u) => CE outer P w H s Q u s'
  | .ok _ => False
  | .error e => CX outer H s E e s'
structure FnOk (P : Program) (w : World) (K : PySem.W.Frag) (mg : Str → Option Value) (base : Heap) (CX : CXT) (k : Nat) (f : Addr) (fd : FuncData) (ps : List Str) (sp : Sp) : Prop where
  len : ∀ vs H Q E, sp vs H Q E → vs.length = ps.length
  run : ∀ (A : Around) (outer : List Env) (s : Shared) (H : Hp) (args : Args) (us : List Value) (vs : List V) (Q : VK) (E : XK), Room k A → Env0 P w K mg base A outer s H → BindsTo s fd args (ps.zip us) → Vals vs us → sp vs H Q E →
    codeAny (model P w) A (.call (.ref f) args) (CR CX outer P w H s Q E) s
theorem FnOk.mono {P : Program} {w : World} {K : PySem.W.Frag} {mg : Str → Option Value} {base : Heap} {CX : CXT} {j k : Nat} {f : Addr} {fd : FuncData} {ps : List Str} {sp : Sp} (F : FnOk P w K mg base CX j f fd ps sp) (h : j ≤ k) :
    FnOk P w K mg base CX k f fd ps sp := ⟨F.len, fun A outer s H args us vs Q E hr => F.run A outer s H args us vs Q E (hr.mono h)⟩
/-- a weaker promise -/
theorem FnOk.imp {P : Program} {w : World} {K : PySem.W.Frag} {mg : Str → Option Value} {base : Heap} {CX : CXT} {k : Nat} {f : Addr} {fd : FuncData} {ps : List Str} {sp sp' : Sp} (F : FnOk P w K mg base CX k f fd ps sp)
    (h : ∀ vs H Q E, sp' vs H Q E → sp vs H Q E) : FnOk P w K mg base CX k f fd ps sp' :=
  ⟨fun vs H Q E q => F.len vs H Q E (h _ _ _ _ q), fun A outer s H args us vs Q E hr he hb hv hs => F.run A outer s H args us vs Q E hr he hb hv (h _ _ _ _ hs)⟩

theorem Env0.make {P : Program} {w : World} {K : PySem.W.Frag} {mg : Str → Option Value} {base : Heap} {A : Around} {outer : List Env} {s : Shared} {H : Hp} (e : Env0 P w K mg base A outer s H) (C : Addr) (us : List Value) (kw : List (Str × Value)) :
    Env0 P w K mg base (A.under (.builtin "type.__call__" ⟨.ref C :: us, kw⟩)) outer s H := ⟨by first | exact e.frames | (simpa [Around.under, Code.envs, Code.isFrame, pushEnvs] using e.frames), e.mod, e.bs, e.bsz, e.funs, e.frf, e.hok, e.bare⟩
section
variable {X : Cx} {pins : List (Addr × Obj)} {σ : St} {H : Hp} {s s' : Shared}
/-- from a body: what a callee wants -/
theorem Inv.env0 (I : Inv X pins σ H s) : Env0 X.prog X.w X.K X.mg X.base X.A X.stack s H :=
  ⟨I.ok.frames, I.ok.mod, I.bs, Nat.le_trans I.ok.bsz I.sz, I.stack, I.stkFree, I.hok, I.bare⟩
/-- behind a call -/
theorem Inv.after {Q : VK} {u : Value} (I : Inv X pins σ H s) (h : CE X.stack X.prog X.w H s Q u s') : EP X pins σ Q u s' := by
  obtain ⟨v, H', os, bare, un, hok, r, q⟩ := h
  obtain ⟨hh, g, d, t, os'⟩ := s'
  obtain rfl : os' = s.os := os
  exact ⟨v, H', I.call (h' := hh) (g' := g) (d' := d) (t' := t) (ch := []) un hok bare (fun b z => absurd z (by simp)), r, q⟩
end

/-! ### calls -/
/-- f(..): the written arguments, then the defaults dvs; E: what is wanted of an exception -/
noncomputable def tCall (sp : Sp) (dvs : List V) (E : XK) (t : TA) : TE := fun σ H Q => t σ H fun vs H1 => sp (vs ++ dvs) H1 Q E
/-- o.m(..) of an instance of the class at C -/
noncomputable def tMeth (C : Addr) (m : Str) (sp : Sp) (dvs : List V) (E : XK) (ta : TE) (t : TA) : TE := fun σ H Q => ta σ H fun x H1 => ∃ a dx fs, x = .ref a ∧ H1 a = some (.ins C dx fs) ∧ fs.lookup m = none ∧
  t σ H1 fun vs H2 => sp (x :: (vs ++ dvs)) H2 Q E
/-- C(..): a new instance and its dict, then __init__ -/
noncomputable def tMake (C : Addr) (sp : Sp) (dvs : List V) (E : XK) (t : TA) : TE := fun σ H Q => t σ H fun vs H1 => ∀ x dx, H1 x = none → H1 dx = none → dx ≠ x →
  sp (.ref x :: (vs ++ dvs)) (upd (upd H1 dx (.own x)) x (.ins C dx [])) (fun v H2 => v = .non ∧ Q (.ref x) H2) E

/-- how the parameters are bound: us the positional arguments, kw the keywords' values by name, ds the defaults that fill up -/
noncomputable def Binds (K : PySem.W.Frag) (fd : FuncData) (ps : List Str) (ds : List Value) : Prop :=
  ∀ (s : Shared) (us : List Value), K.In s.heap → (us ++ ds).length = ps.length → BindsTo s fd ⟨us, []⟩ (ps.zip (us ++ ds))
/-- every parameter is given -/
theorem Binds.all {K : PySem.W.Frag} {fd : FuncData} {ps : List Str} (h : ∀ us : List Value, us.length = ps.length → bindArgs fd ⟨us, []⟩ = pure (ps.zip us)) : Binds K fd ps [] := fun s us _ hl => by
  rw [List.append_nil] at hl ⊢
  exact .of_eq (h us hl)

/-- an exception of a callee reaches what this body wants of exceptions -/
noncomputable def Passes (CX : CXT) (X : Cx) (E : XK) : Prop := ∀ (pins : List (Addr × Obj)) (σ : St) (H : Hp) (s : Shared) (e : Value) (s' : Shared), Inv X pins σ H s → CX X.stack H s E e s' → X.xe e s'

section
variable {X : Cx} {CX : CXT} {k : Nat} {f C : Addr} {fd : FuncData} {ps : List Str} {sp : Sp} {dvs : List V} {ds : List Value} {E : XK} {x m : Str} {p pos apos : Pos} {e o : Expr} {es : List Expr} {ta : TE} {t : TA}

/-- the callee runs -/
theorem run_fn {pins : List (Addr × Obj)} {σ : St} {H : Hp} {s : Shared} {Q : VK} {us : List Value} {vs : List V} (F : FnOk X.prog X.w X.K X.mg X.base CX k f fd ps sp) (hr : Room k X.A) (hb : Binds X.K fd ps ds) (hd : Vals dvs ds) (hx : Passes CX X E)
    (I : Inv X pins σ H s) (r : Vals vs us) (h : sp (vs ++ dvs) H Q E) : wpAny (model X.prog X.w) X.A (call (.ref f) us) (EP X pins σ Q) X.xe s := by
  have r2 : Vals (vs ++ dvs) (us ++ ds) := r.append hd
  have hl : (us ++ ds).length = ps.length := by rw [← r2.length]; exact F.len _ _ _ _ h
  refine wpAny_call (codeAny_mono (F.run X.A X.stack s H ⟨us, []⟩ (us ++ ds) (vs ++ dvs) Q E hr I.env0 (hb s us I.kIn hl) r2 h) fun r s' hq => ?_)
  cases r with
  | error e => exact hx pins σ H s e s' I hq
  | ok fl =>
    cases fl with
    | ret u => exact I.after hq
    | next => exact False.elim hq
    | brk => exact False.elim hq
    | cont => exact False.elim hq

theorem pe_call (F : FnOk X.prog X.w X.K X.mg X.base CX k f fd ps sp) (hr : Room k X.A) (hg : Gl X x) (hm : X.mg x = some (.ref f)) (hk : PySem.W.keepIn X.K (.ref f) = true) (hb : Binds X.K fd ps ds) (hd : Vals dvs ds) (hx : Passes CX X E)
    (ha : PA X (e :: es) t) (hdb : (x == ("__debug__" : Str)) = false := by decide) (he : starEach (e :: es) X.env = (false, eval e X.env) :: starEach es X.env := by exact star_of rfl) (hpl : (backTo pos (starEach es X.env)).any (·.1) = false := by rfl) :
    PE X (.Call (.Name x p) (e :: es) [] pos) (tCall sp dvs E t) := by
  intro pins s σ H Q I h
  refine wpAny_Call_Name_kw (ld_glob I hg hm ?_ hdb)
  refine PySem.W.callWith_K (h₀ := X.base) I.ok.mod.kin hk (thn (ha pos pins s σ H _ I h) fun us s1 ⟨vs, H1, I1, r, q⟩ => ⟨I1.kIn, ?_⟩) he hpl
  exact run_fn F hr hb hd hx I1 r q
/-- o.m(e, ..) -/
theorem pe_meth {pl : Sem Bool} (he : PE X o ta) (c : Cls X.K C) (hm : Meth X.K C m f) (F : FnOk X.prog X.w X.K X.mg X.base CX k f fd ps sp) (hr : Room k X.A) (hb : Binds X.K fd ps ds) (hd : Vals dvs ds) (hx : Passes CX X E) (ha : PA X (e :: es) t)
    (hst : starEach (e :: es) X.env = (false, eval e X.env) :: starEach es X.env := by exact star_of rfl) (hpl : (backTo pos (starEach es X.env)).any (·.1) = false := by rfl)
    (ht : eval (.Call (.Attribute o m apos) (e :: es) [] pos) X.env = (do
      let ov ← eval o X.env
      standAt apos.atName
      let (f, first) ← holding [ov] (getMethod ov m pl)
      callWith pos f first (backTo pos (starEach (e :: es) X.env)) (backToKw pos (keywordEach [] X.env))) := by rfl) :
    PE X (.Call (.Attribute o m apos) (e :: es) [] pos) (tMeth C m sp dvs E ta t) := by
  intro pins s σ H Q I h
  refine PySem.W.methodCall_KW (pl := pl) (thn (he pins s σ H _ I h) fun u s1 ⟨x, H1, I1, rx, a, dx, fs, ex, ea, l, q⟩ => ?_) ht
  subst ex
  obtain rfl : u = Value.ref a := rx
  refine getmeth_ok I1 ea c hm l ?_
  refine PySem.W.callWith_K (first := [.ref a]) (h₀ := X.base) I.ok.mod.kin hm.kp (thn (ha pos pins s1 σ H1 _ I1 q) fun us s2 ⟨vs, H2, I2, r, q2⟩ => ⟨I2.kIn, ?_⟩) hst hpl
  exact run_fn (us := .ref a :: us) (vs := .ref a :: vs) F hr hb hd hx I2 (.cons rfl r) q2
/-- o.m() -/
theorem pe_meth0 {pl : Sem Bool} (he : PE X o ta) (c : Cls X.K C) (hm : Meth X.K C m f) (F : FnOk X.prog X.w X.K X.mg X.base CX k f fd ps sp) (hr : Room k X.A) (hb : Binds X.K fd ps ds) (hd : Vals dvs ds) (hx : Passes CX X E)
    (ht : eval (.Call (.Attribute o m apos) [] [] pos) X.env = (do
      let ov ← eval o X.env
      standAt apos.atName
      let (f, first) ← holding [ov] (getMethod ov m pl)
      callWith pos f first (backTo pos (starEach [] X.env)) (backToKw pos (keywordEach [] X.env))) := by rfl) :
    PE X (.Call (.Attribute o m apos) [] [] pos) (tMeth C m sp dvs E ta tNil) := by
  intro pins s σ H Q I h
  refine PySem.W.methodCall_KW (pl := pl) (thn (he pins s σ H _ I h) fun u s1 ⟨x, H1, I1, rx, a, dx, fs, ex, ea, l, q⟩ => ?_) ht
  subst ex
  obtain rfl : u = Value.ref a := rx
  refine getmeth_ok I1 ea c hm l ?_
  exact PySem.W.callWith_K0 (first := [.ref a]) I1.kIn hm.kp (run_fn (us := [.ref a]) (vs := [.ref a]) F hr hb hd hx I1 (.cons rfl .nil) q)

/-- what a class must have to be made -/
structure Mk (K : PySem.W.Frag) (C f : Addr) : Prop where
  makes : PySem.W.makesIn K C = true
  init : PySem.W.findIn K (.ref C) "__init__" = some (some (.ref f))
  fn : PySem.W.isFn K (.ref f) = true
  kp : PySem.W.keepIn K (.ref C) = true

theorem run_make {pins : List (Addr × Obj)} {σ : St} {H : Hp} {s : Shared} {Q : VK} {us : List Value} {vs : List V} (M : Mk X.K C f) (F : FnOk X.prog X.w X.K X.mg X.base CX k f fd ps sp) (hr : Room (k + 1) X.A) (hb : Binds X.K fd ps ds) (hd : Vals dvs ds)
    (hx : Passes CX X E) (I : Inv X pins σ H s) (r : Vals vs us)
    (h : ∀ x dx, H x = none → H dx = none → dx ≠ x → sp (.ref x :: (vs ++ dvs)) (upd (upd H dx (.own x)) x (.ins C dx [])) (fun v H2 => v = .non ∧ Q (.ref x) H2) E) :
    wpAny (model X.prog X.w) X.A (call (.ref C) us) (EP X pins σ Q) X.xe s := by
  have hq := h (s.heap.objs.size + 1) s.heap.objs.size (I.hok.fresh (Nat.le_succ _)) (I.hok.fresh (Nat.le_refl _)) (Nat.ne_of_lt (Nat.lt_succ_self _))
  have I2 := Inv.made (C := C) I
  have r2 : Vals (V.ref (s.heap.objs.size + 1) :: (vs ++ dvs)) (Value.ref (s.heap.objs.size + 1) :: (us ++ ds)) := .cons rfl (r.append hd)
  have hl : (Value.ref (s.heap.objs.size + 1) :: us ++ ds).length = ps.length := by
    have e := r2.length
    rw [F.len _ _ _ _ hq] at e
    exact e.symm
  refine wpAny_call (make_map (f := f) I.kIn M.makes M.init (beq_iff_eq.mp M.fn) (codeAny_mono (F.run _ X.stack _ _ ⟨Value.ref (s.heap.objs.size + 1) :: us, []⟩ (Value.ref (s.heap.objs.size + 1) :: (us ++ ds)) _ _ E (hr.make C us [])
    (I2.env0.make C us []) (hb _ (Value.ref (s.heap.objs.size + 1) :: us) I2.kIn hl) r2 hq) fun r s' hq' => ?_))
  cases r with
  | error e => exact hx pins σ _ _ e s' I2 hq'
  | ok fl =>
    cases fl with
    | ret u =>
      obtain ⟨v, H', I3, rv, ev, q3⟩ := I2.after hq'
      subst ev
      exact ⟨rv, ⟨V.ref (s.heap.objs.size + 1), H', I3, rfl, q3⟩⟩
    | next => exact False.elim hq'
    | brk => exact False.elim hq'
    | cont => exact False.elim hq'
theorem pe_make (M : Mk X.K C f) (F : FnOk X.prog X.w X.K X.mg X.base CX k f fd ps sp) (hr : Room (k + 1) X.A) (hg : Gl X x) (hm : X.mg x = some (.ref C)) (hb : Binds X.K fd ps ds) (hd : Vals dvs ds) (hx : Passes CX X E)
    (ha : PA X (e :: es) t) (hdb : (x == ("__debug__" : Str)) = false := by decide) (he : starEach (e :: es) X.env = (false, eval e X.env) :: starEach es X.env := by exact star_of rfl) (hpl : (backTo pos (starEach es X.env)).any (·.1) = false := by rfl) :
    PE X (.Call (.Name x p) (e :: es) [] pos) (tMake C sp dvs E t) := by
  intro pins s σ H Q I h
  refine wpAny_Call_Name_kw (ld_glob I hg hm ?_ hdb)
  refine PySem.W.callWith_K (h₀ := X.base) I.ok.mod.kin M.kp (thn (ha pos pins s σ H _ I h) fun us s1 ⟨vs, H1, I1, r, q⟩ => ⟨I1.kIn, ?_⟩) he hpl
  exact run_make M F hr hb hd hx I1 r q
end

/-! ### keywords -/
section
variable {X : Cx} {CX : CXT} {k : Nat} {f C : Addr} {fd : FuncData} {ps ks : List Str} {sp : Sp} {E : XK} {x m : Str} {p pos apos kpos : Pos} {e o : Expr} {es : List Expr} {kws : List Keyword} {te ta : TE} {t tk : TA} {nm : Option Str}
variable {g : List Value → List Value → List Value} {gV : List V → List V → List V}
end

/-! ### a def's body keeps its promise -/
/-- names: the parameters first -/
structure FnScope (N P : List Str) (sc : Scope) : Prop where
  kind : sc.kind = .function
  co : sc.isCoroutine = false
  gen : sc.isGenerator = false
  nd : N.Nodup
  pre : N.take P.length = P
  par : ∀ x ∈ P, sc.names.lookup x = some .local ∨ sc.names.lookup x = some .cell
  nofree : ∀ y ∈ sc.names, y.2 ≠ .free

theorem bindL_out {kindOf : Str → Option NameKind} {x : Str} : ∀ {binds : List (Str × Value)} {m : Str → Option Value}, (∀ v, (x, v) ∉ binds) → bindL kindOf binds m x = m x
  | [], _, _ => rfl
  | (n, v) :: r, m, h => by
    unfold bindL
    rw [bindL_out fun w hw => h w (List.mem_cons_of_mem _ hw)]
    split
    · have : x ≠ n := by rintro rfl; exact h v List.mem_cons_self
      simp [this]
    · rfl
theorem bindC_out {kindOf : Str → Option NameKind} {x : Str} : ∀ {binds : List (Str × Value)} {m : Str → Option Value}, (∀ v, (x, v) ∉ binds) → bindC kindOf binds m x = m x
  | [], _, _ => rfl
  | (n, v) :: r, m, h => by
    unfold bindC
    rw [bindC_out fun w hw => h w (List.mem_cons_of_mem _ hw)]
    split
    · rfl
    · have : x ≠ n := by rintro rfl; exact h v List.mem_cons_self
      simp [this]
theorem bindL_get {kindOf : Str → Option NameKind} {x : Str} {v : Value} : ∀ {P : List Str} {vs : List Value} {i : Nat} {m : Str → Option Value}, P.Nodup → P[i]? = some x → vs[i]? = some v → kindOf x = some .local →
    bindL kindOf (P.zip vs) m x = some v
  | [], _, _, _, _, h, _, _ => by simp at h
  | _ :: _, [], _, _, _, _, h, _ => by simp at h
  | p :: P, w :: vs, 0, m, nd, h1, h2, hk => by
    simp at h1 h2; subst h1; subst h2
    show bindL kindOf ((p, w) :: P.zip vs) m p = _
    unfold bindL
    rw [bindL_out fun v hv => (List.nodup_cons.mp nd).1 (List.of_mem_zip hv).1, if_pos hk]
    simp
  | p :: P, w :: vs, i + 1, m, nd, h1, h2, hk => by
    show bindL kindOf ((p, w) :: P.zip vs) m x = _
    unfold bindL
    exact bindL_get (i := i) (List.nodup_cons.mp nd).2 (by simpa using h1) (by simpa using h2) hk
theorem bindC_get {kindOf : Str → Option NameKind} {x : Str} {v : Value} : ∀ {P : List Str} {vs : List Value} {i : Nat} {m : Str → Option Value}, P.Nodup → P[i]? = some x → vs[i]? = some v → kindOf x ≠ some .local →
    bindC kindOf (P.zip vs) m x = some v
  | [], _, _, _, _, h, _, _ => by simp at h
  | _ :: _, [], _, _, _, _, h, _ => by simp at h
  | p :: P, w :: vs, 0, m, nd, h1, h2, hk => by
    simp at h1 h2; subst h1; subst h2
    show bindC kindOf ((p, w) :: P.zip vs) m p = _
    unfold bindC
    rw [bindC_out fun v hv => (List.nodup_cons.mp nd).1 (List.of_mem_zip hv).1, if_neg hk]
    simp
  | p :: P, w :: vs, i + 1, m, nd, h1, h2, hk => by
    show bindC kindOf ((p, w) :: P.zip vs) m x = _
    unfold bindC
    exact bindC_get (i := i) (List.nodup_cons.mp nd).2 (by simpa using h1) (by simpa using h2) hk

/-- the names' values at the entry -/
noncomputable def start (N : List Str) (vs : List V) : St := vs.map some ++ List.replicate (N.length - vs.length) none

/-- the context of a def's body, at its entry; an exception leaves the frame, then lies as CX says -/
noncomputable def cxOf (CX : CXT) (P : Program) (w : World) (K : PySem.W.Frag) (mg : Str → Option Value) (base : Heap) (N : List Str) (qual : Str) (scope : Scope) (f : Addr) (cd : Value) (A : Around) (outer : List Env) (s : Shared) (H : Hp) (E : XK) : Cx where
  prog := P
  w := w
  K := K
  mg := mg
  base := base
  A := A.deeper (envOfC qual scope s.heap.objs.size f cd)
  N := N
  s₀ := s
  H₀ := H
  env := envOfC qual scope s.heap.objs.size f cd
  outer := outer
  stack := envOfC qual scope s.heap.objs.size f cd :: outer
  ex := []
  calm := true
  fn := fun _ => true
  pn := []
  xe := fun e s' => wpAny (model P w) (A.deeper (envOfC qual scope s.heap.objs.size f cd)) (leaving (envOfC qual scope s.heap.objs.size f cd) e) (fun _ s'' => CX outer H s E e s'') (fun e' s'' => CX outer H s E e' s'') s'

theorem cell_has {sc : Scope} {n : Nat} {x : Str} (h : sc.names.lookup x = some .cell) : ∃ c, (cellsFrom n sc.names []).lookup x = some c := by
  have q := PySem.W.cellsFrom_some sc.names n [] (.inl h)
  exact Option.isSome_iff_exists.mp q

theorem inv_start {CX : CXT} {P : Program} {w : World} {K : PySem.W.Frag} {mg : Str → Option Value} {base : Heap} {N ps : List Str} {qual : Str} {scope : Scope} {f : Addr} {cd : Value} {A : Around} {outer : List Env} {s s1 : Shared} {H : Hp} {E : XK} {us : List Value} {vs : List V}
    (S : FnScope N ps scope) (hd : A.handled = none) (e0 : Env0 P w K mg base A outer s H) (hl : vs.length = ps.length) (r : Vals vs us)
    (x : InCallC s s.heap.objs.size (bindL (envOfC qual scope s.heap.objs.size f cd).kindOf (ps.zip us) fun _ => none) (cellsFrom (s.heap.objs.size + 1) scope.names []) (bindC (envOfC qual scope s.heap.objs.size f cd).kindOf (ps.zip us) fun _ => none) s1) :
    Inv (cxOf CX P w K mg base N qual scope f cd A outer s H E) [] (start N vs) H s1 := by
  have hpl : ps.length ≤ N.length := by have := congrArg List.length S.pre; rw [List.length_take] at this; omega
  obtain ⟨h1, tk, rfl, hk⟩ := x.done
  have noA : ∀ b : Addr, b ∉ (cxOf CX P w K mg base N qual scope f cd A outer s H E).ex := fun b z => absurd (show b ∈ ([] : List Addr) from z) (by simp)
  refine ⟨⟨e0.mod, S.kind, rfl, rfl, Nat.le_refl _, fun y z c h1 h2 => ?_, fun y hy => ?_, fun y c _ h => ?_, fun _ => hd, Around.frames_deeper e0.frames, .inr ⟨rfl, rfl⟩, fun b z => absurd z (noA b), e0.bs, e0.bsz, fun b _ _ => noA b, fun b z => absurd z (noA b), e0.funs, e0.frf⟩,
    rfl, e0.bare, Un.kept hk, ⟨_, x.toInCall.ns, fun i y v h1 h2 h3 => ?_⟩, fun y c h => ⟨_, x.cell y c h⟩, e0.hok.fresh (Nat.le_refl _), fun y c h => ?_, fun p hp => absurd (show p ∈ ([] : List (Addr × Obj)) from hp) (by simp), e0.hok.kept hk, ?_⟩
  · exact name_of_addr x.apart (PySem.mem_of_lookup h1) (PySem.mem_of_lookup h2)
  · have hy : scope.names.lookup y = some .cell ∨ scope.names.lookup y = some .free := hy
    rcases hy with hy | hy
    · exact cell_has hy
    · exact absurd rfl (S.nofree _ (PySem.mem_of_lookup hy))
  · exact Nat.le_of_lt (x.above y c (PySem.mem_of_lookup h))
  · have hi : i < vs.length := by
      unfold start at h2
      by_cases hi : i < vs.length
      · exact hi
      · rw [List.getElem?_append_right (by simpa using hi)] at h2
        rw [List.getElem?_replicate] at h2
        split at h2 <;> cases h2
    have ha : vs[i]? = some v := by
      unfold start at h2
      rw [List.getElem?_append_left (by simpa using hi), List.getElem?_map] at h2
      cases e : vs[i]? with
      | none => rw [e] at h2; cases h2
      | some a => rw [e] at h2; cases h2; rfl
    obtain ⟨u, hu, rv⟩ := r.get ha
    have hp : ps[i]? = some y := by
      rw [← S.pre, List.getElem?_take_of_lt (by omega)]; exact h1
    have ndP : ps.Nodup := by rw [← S.pre]; exact S.nd.sublist (List.take_sublist _ _)
    refine ⟨u, rv, ?_⟩
    rcases S.par y (List.mem_of_getElem? hp) with k | k
    · exact .inl ⟨k, bindL_get ndP hp hu k⟩
    · obtain ⟨c, e⟩ := cell_has (n := s.heap.objs.size + 1) k
      refine .inr ⟨.inl k, c, e, ?_⟩
      have q := x.cell y c e
      rw [bindC_get ndP hp hu (by show scope.names.lookup y ≠ _; rw [k]; decide)] at q
      exact q
  · exact e0.hok.fresh (Nat.le_of_lt (x.above y c (PySem.mem_of_lookup h)))
  · unfold start
    show _ = N.length
    rw [List.length_append, List.length_map, List.length_replicate]
    omega

/-- THE RULE: a def (or a method) of the text, by its body. The body's reading t is chosen for each entry; it is run at the parameters' values -/
theorem fn_of {CX : CXT} {P : Program} {w : World} {K : PySem.W.Frag} {mg : Str → Option Value} {base : Heap} {k : Nat} {f : Addr} {name qual : Str} {params : Arguments} {body : List Stmt} {scope : Scope} {dV kV doc pm cdv ct oc : Value} {an od : Option Addr}
    {osl : Array (Option Value)} {N ps : List Str} {sp : Sp} (lk : K.lookup f = some ⟨oc, od, .func (PySem.W.fnOf name qual params body scope dV kV doc pm an cdv ct), osl⟩) (hcd : PySem.W.codeIn K cdv qual = true) (S : FnScope N ps scope)
    (len : ∀ vs H Q E, sp vs H Q E → vs.length = ps.length)
    (hbody : ∀ (A : Around) (outer : List Env) (s : Shared) (H : Hp) (vs : List V) (Q : VK) (E : XK), Room k (A.deeper (envOfC qual scope s.heap.objs.size f cdv)) → sp vs H Q E →
      ∃ t, PSs (cxOf CX P w K mg base N qual scope f cdv A outer s H E) body t ∧ t { nx := fun _ H' => Q .non H', rt := Q } (start N vs) H) :
    FnOk P w K mg base CX (k + 1) f (PySem.W.fnOf name qual params body scope dV kV doc pm an cdv ct) ps sp := by
  refine ⟨len, fun A outer s H args us vs Q E hr e0 hb r hsp => ?_⟩
  have hl := len _ _ _ _ hsp
  have KX : K.In s.heap := e0.mod.kin.keeps fun b o e => (e0.bs b o e).1
  have lim : s.heap.NoLimit := e0.mod.nolimit.keeps fun b o e => (e0.bs b o e).1
  have hkind : ∀ y ∈ ps.zip us, scope.names.lookup y.1 = some .local ∨ (scope.names.lookup y.1 = some .cell ∧ ((cellsFrom (s.heap.objs.size + 1) scope.names []).lookup y.1).isSome = true) := fun ⟨n, v⟩ hy => by
    rcases S.par n (List.of_mem_zip hy).1 with q | q
    · exact .inl q
    · exact .inr ⟨q, PySem.W.cellsFrom_some _ _ _ (.inl q)⟩
  refine codeAny_call_function hr.depth (KX _ _ lk) rfl S.co S.gen rfl (PySem.W.codeRec_of KX hcd) (hb _ _ _ _ ?_)
  refine wpAny_newFunctionEnv_cells S.kind hkind fun env he s1 x => ?_
  subst he
  refine ⟨lim.keeps x.toInCall.keep, codeAny_func ?_⟩
  obtain ⟨t, ht, hq⟩ := hbody A outer s H vs Q E (hr.deeper _) hsp
  have I : Inv (cxOf CX P w K mg base N qual scope f cdv A outer s H E) [] (start N vs) H s1 := inv_start S hr.hd e0 hl r x
  refine wpAny_mono (ht [] s1 (start N vs) H _ I hq) (fun fl s' hs => ?_) fun e s' hs => hs
  have fin : ∀ {σ' : St} {H' : Hp} {v : V} {u : Value}, Inv (cxOf CX P w K mg base N qual scope f cdv A outer s H E) [] σ' H' s' → RelV v u → Q v H' → CE outer P w H s Q u s' :=
    fun {σ' H' v u} J rv q => ⟨v, H', J.os, J.bare, J.base, J.hok, rv, q⟩
  cases fl with
  | ret u =>
    obtain ⟨v, σ', H', J, rv, q⟩ := hs
    exact fin J rv q
  | next =>
    obtain ⟨σ', H', J, q⟩ := hs
    exact fin (v := V.non) (u := Value.none) J rfl q
  | brk =>
    obtain ⟨_, _, _, q⟩ := hs
    exact False.elim q
  | cont =>
    obtain ⟨_, _, _, q⟩ := hs
    exact False.elim q
end L2

namespace L2
open PySem PySem.Spec PyProof.Rows
section
variable {X : Cx} {x : Str} {p pos : Pos} {e : Expr} {es : List Expr} {t : TA} {id T : String} {r : List V → Hp → VK → Prop}

noncomputable def tCB (r : List V → Hp → VK → Prop) (t : TA) : TE := fun σ H Q => t σ H fun vs H1 => r vs H1 Q
/-- f(e, ..), f a built-in function -/
theorem pe_callB (hc : CallR X (.builtin id) r) (hg : Gl X x) (hm : X.mg x = none) (hv : bootBuiltins x = some (.builtin id)) (ha : PA X (e :: es) t) (hn : x ≠ "__name__" := by decide) (hdb : (x == ("__debug__" : Str)) = false := by decide)
    (he : starEach (e :: es) X.env = (false, eval e X.env) :: starEach es X.env := by exact star_of rfl) (hpl : (backTo pos (starEach es X.env)).any (·.1) = false := by rfl) : PE X (.Call (.Name x p) (e :: es) [] pos) (tCB r t) := by
  intro pins s σ H Q I h
  refine wpAny_Call_Name_kw (ld_blt I hg hm hv ?_ hn hdb)
  exact PyProof.Rows.callWith_builtin1 (thn (ha pos pins s σ H _ I h) fun us s1 ⟨vs, H1, I1, r1, q1⟩ => hc pins s1 σ H1 vs us Q I1 r1 q1) he hpl
/-- T(e, ..), T a built-in type -/
theorem pe_callTy (hc : CallR X (.type T) r) (hg : Gl X x) (hm : X.mg x = none) (hv : bootBuiltins x = some (.type T)) (ha : PA X (e :: es) t) (hn : x ≠ "__name__" := by decide) (hdb : (x == ("__debug__" : Str)) = false := by decide)
    (he : starEach (e :: es) X.env = (false, eval e X.env) :: starEach es X.env := by exact star_of rfl) (hpl : (backTo pos (starEach es X.env)).any (·.1) = false := by rfl) : PE X (.Call (.Name x p) (e :: es) [] pos) (tCB r t) := by
  intro pins s σ H Q I h
  refine wpAny_Call_Name_kw (ld_blt I hg hm hv ?_ hn hdb)
  exact PyProof.Rows.callWith_type1 (thn (ha pos pins s σ H _ I h) fun us s1 ⟨vs, H1, I1, r1, q1⟩ => hc pins s1 σ H1 vs us Q I1 r1 q1) he hpl
end
end L2

namespace HT
open PySem PyProof.Rows

section
open PySem.SeqAt
open PySem.AutoSeq1 (wpAny_loadPart')
open PySem.MeetsSeq PySem.MeetsSeq2 PySem.MeetsSeq3

end

section
variable {prog : Program} {w : World} {A : Around} {E : Value → Shared → Prop} {s : Shared}

/-! ### t[a:b], not the whole -/
end
end HT

namespace L2
open PySem PySem.Spec PyProof.Rows

/-! ### the parts of a slice -/
noncomputable abbrev TO := St → Hp → (Option Int → Hp → Prop) → Prop
/-- a slice's part (left out, or an int) -/
noncomputable def PO (X : Cx) (e : Option Expr) (t : TO) : Prop :=
  ∀ (pins : List (Addr × Obj)) (s : Shared) (σ : St) (H : Hp) (Q : Option Int → Hp → Prop), Inv X pins σ H s → t σ H Q →
    wpAny (model X.prog X.w) X.A (evalPart e X.env) (fun u s' => ∃ o H', Inv X pins σ H' s' ∧ IsPart u o ∧ Q o H') X.xe s
noncomputable def tPart (t : TE) : TO := fun σ H Q => t σ H fun x H1 => ∃ i, x = .int i ∧ Q (some i) H1

section
variable {X : Cx} {e : Expr} {te : TE} {lo hi : Option Expr} {tl th : TO} {pos p2 : Pos}

theorem po_some (h : PE X e te) : PO X (some e) (tPart te) := by
  intro pins s σ H Q I hw
  rw [evalPart_some]
  refine thn (h pins s σ H _ I hw) fun u s1 ⟨x, H1, I1, r1, q1⟩ => ?_
  obtain ⟨i, rfl, q⟩ := q1
  obtain ⟨t, rfl⟩ := r1
  exact ⟨some i, H1, I1, .int i t, q⟩

/-- what a slice of a value is, by values: the slice object stands at sl -/
noncomputable def SlR (X : Cx) (r : V → Option Int → Option Int → Hp → VK → Prop) : Prop :=
  ∀ (pins : List (Addr × Obj)) (s : Shared) (σ : St) (H : Hp) (x : V) (v vl vu : Value) (lo hi : Option Int) (sl : Addr) (Q : VK), Inv X pins σ H s → RelV x v → s.heap.IsSliceOf sl vl vu .none → IsPart vl lo → IsPart vu hi → r x lo hi H Q →
    ∃ T id, typeLookup (.type T) "__getitem__" = pure (some (.builtin id)) ∧ s.TypeIs v T ∧ wpAny (model X.prog X.w) X.A (getItem v (.ref sl)) (EP X pins σ Q) X.xe s
noncomputable def tSl (r : V → Option Int → Option Int → Hp → VK → Prop) (te : TE) (tl th : TO) : TE := fun σ H Q => te σ H fun x H1 => tl σ H1 fun l H2 => th σ H2 fun u H3 => r x l u H3 Q
/-- a[lo:hi], any a -/
theorem pe_slice {r : V → Option Int → Option Int → Hp → VK → Prop} (hr : SlR X r) (he : PE X e te) (hl : PO X lo tl) (hu : PO X hi th) : PE X (.Subscript e (.Slice lo hi none p2) pos) (tSl r te tl th) := by
  intro pins s σ H Q I h
  refine Subscript_ (thn (he pins s σ H _ I h) fun v s1 ⟨x, H1, I1, r1, q1⟩ => ?_)
  refine wpAny_Slice (thn (hl pins s1 σ H1 _ I1 q1) fun vl s2 ⟨l, H2, I2, pl, q2⟩ => thn (hu pins s2 σ H2 _ I2 q2) fun vu s3 ⟨u, H3, I3, pu, q3⟩ => ?_)
  rw [evalPart_none]
  refine wpAny_pure ?_
  have I4 : Inv X pins σ H3 { s3 with heap := s3.heap.push { cls := .type "slice", data := .fields #[vl, vu, .none] } } := I3.kept (t' := s3.toks) fun b ob q => Heap.get?_push_of_some _ q
  obtain ⟨T, id, hT, ht, hg⟩ := hr pins { s3 with heap := s3.heap.push { cls := .type "slice", data := .fields #[vl, vu, .none] } } σ H3 x v vl vu l u s3.heap.objs.size Q I4 r1 (Heap.IsSliceOf.new ..) pl pu q3
  show wpAny (model X.prog X.w) X.A (subscriptTail e (.Slice lo hi none p2) v (.ref s3.heap.objs.size)) (EP X pins σ Q) X.xe { s3 with heap := s3.heap.push { cls := .type "slice", data := .fields #[vl, vu, .none] } }
  exact tail_any (ops := [.ref s3.heap.objs.size, v]) ht hT hg (by with_unfolding_all rfl)

/-! ### t < u, t + u -/
end
end L2

namespace L2
open PySem PySem.Spec PyProof.Rows

/-! ### places -/
/-- the place that an index of any sign means -/
noncomputable def ixN (n : Nat) (i : Int) : Option Nat := if 0 ≤ i then (if i < n then some i.toNat else none) else if -(n : Int) ≤ i then some (i + n).toNat else none
noncomputable def atI {α : Type} (xs : List α) (i : Int) : Option α := (ixN xs.length i).bind fun j => xs[j]?
theorem ixN_seq {n : Nat} {i : Int} {j : Nat} (h : ixN n i = some j) : seqIndex? i n = some j ∧ j < n ∧ -(n : Int) ≤ i ∧ i < n := by
  unfold ixN at h
  by_cases h0 : 0 ≤ i
  · rw [if_pos h0] at h
    by_cases h1 : i < n
    · rw [if_pos h1] at h
      have e : i.toNat = j := Option.some.inj h
      exact ⟨by rw [seqIndex_of h0 h1, e], by omega, by omega, h1⟩
    · rw [if_neg h1] at h; cases h
  · rw [if_neg h0] at h
    by_cases h1 : -(n : Int) ≤ i
    · rw [if_pos h1] at h
      have e : (i + n).toNat = j := Option.some.inj h
      exact ⟨by rw [seqIndex_neg (by omega) h1, e], by omega, h1, by omega⟩
    · rw [if_neg h1] at h; cases h
theorem atI_get {α : Type} {xs : List α} {i : Int} {v : α} (h : atI xs i = some v) : ∃ j, seqIndex? i xs.length = some j ∧ xs[j]? = some v ∧ j < xs.length ∧ -(xs.length : Int) ≤ i ∧ i < xs.length := by
  unfold atI at h
  cases e : ixN xs.length i with
  | none => rw [e] at h; cases h
  | some j =>
    rw [e] at h
    obtain ⟨h1, h2, h3, h4⟩ := ixN_seq e
    exact ⟨j, h1, h, h2, h3, h4⟩
theorem atI_nat {α : Type} {xs : List α} {j : Nat} {v : α} (h : xs[j]? = some v) : atI xs (j : Int) = some v := by
  have hj : j < xs.length := (List.getElem?_eq_some_iff.mp h).1
  have e : ixN xs.length (j : Int) = some j := by
    unfold ixN
    rw [if_pos (by omega), if_pos (by omega)]; simp
  unfold atI; rw [e]; exact h
theorem atI_last {α : Type} (xs : List α) (v : α) : atI (xs ++ [v]) (-1) = some v := by
  have hl : (xs ++ [v]).length = xs.length + 1 := by simp
  have e : ixN (xs ++ [v]).length (-1) = some xs.length := by
    unfold ixN
    rw [hl, if_neg (by decide), if_pos (by omega)]
    congr 1
    omega
  unfold atI
  rw [e]
  show (xs ++ [v])[xs.length]? = some v
  simp

/-! ### what may be subscripted -/
/-- what stands as an index of a plain subscript -/
noncomputable def PlainIx (b : Expr) : Prop := ∀ o i, subscripted b false o i = operate [o, i] (getItem o i)
/-- a subscript by values -/
noncomputable def IxR (X : Cx) (r : R2) : Prop :=
  ∀ (value slice : Expr) (pins : List (Addr × Obj)) (s : Shared) (σ : St) (H : Hp) (x y : V) (v u : Value) (Q : VK), Inv X pins σ H s → RelV x v → RelV y u → r x y H Q →
    subscripted slice false v u = operate [v, u] (getItem v u) → wpAny (model X.prog X.w) X.A (subscriptTail value slice v u) (EP X pins σ Q) X.xe s
/-- a call of a builtin's method by values: the receiver, the arguments -/
noncomputable def MtR (X : Cx) (id : String) (r : V → List V → Hp → VK → Prop) : Prop :=
  ∀ (pins : List (Addr × Obj)) (s : Shared) (σ : St) (H : Hp) (x : V) (xs : List V) (v : Value) (us : List Value) (Q : VK), Inv X pins σ H s → RelV x v → Vals xs us → r x xs H Q →
    wpAny (model X.prog X.w) X.A (call (.builtin id) (v :: us)) (EP X pins σ Q) X.xe s
section
variable {X : Cx} {a b : Expr} {ta tb : TE} {pos : Pos}
/-- a[b] -/
theorem pe_ix {r : R2} (hr : IxR X r) (ha : PE X a ta) (hb : PE X b tb) (hs : PlainIx b) : PE X (.Subscript a b pos) (tOp r ta tb) := by
  intro pins s σ H Q I h
  exact Subscript_ (binT ha hb I h fun v u s2 x y H2 I2 rx ry q => hr a b pins s2 σ H2 x y v u Q I2 rx ry q (hs _ _))

noncomputable def rIxL (K : PySem.W.Frag) : R2 := fun x y H Q => ∃ p xs i v, x = .ref p ∧ y = .int i ∧ SqL K H p xs ∧ atI xs i = some v ∧ Q v H
noncomputable def rIxT (K : PySem.W.Frag) : R2 := fun x y H Q => ∃ p xs i v, x = .ref p ∧ y = .int i ∧ SqT K H p xs ∧ atI xs i = some v ∧ Q v H
noncomputable def rIxS : R2 := fun x y H Q => ∃ z i c, x = .str z ∧ y = .int i ∧ z.length ≤ sizeLine ∧ atI z.cps.toList i = some c ∧ Q (.str ⟨#[c]⟩) H
theorem ix_list : IxR X (rIxL X.K) := by
  intro value slice pins s σ H x y v u Q I rx ry h hs
  obtain ⟨p, xs, i, z, rfl, rfl, hq, he, q⟩ := h
  cases rx
  obtain ⟨t, rfl⟩ := ry
  obtain ⟨its, r, pl, hz⟩ := I.list hq
  obtain ⟨j, h1, h2, h3, h4, h5⟩ := atI_get he
  obtain ⟨w, ew, rw'⟩ := r.get h2
  have hl := r.length
  have hn := line63
  have fin : EP X pins σ Q w s := ⟨z, H, I, rw', q⟩
  by_cases h0 : 0 ≤ i
  · have hj : i.toNat = j := by
      rw [seqIndex_of h0 h5] at h1
      exact Option.some.inj h1
    exact item_listR pl.isList h0 (by omega) (by rw [hj]; simpa using ew) fin hs
  · have hj : (i + (its.toArray.size : Int)).toNat = j := by
      rw [seqIndex_neg (by omega) h4] at h1
      rw [List.size_toArray, ← hl]
      exact Option.some.inj h1
    exact subscriptTail_builtinR (x := w) pl.isList.typeIs slot_list_getitem.lookup
      (wpAny_getItem_list_neg (Q := fun r s' => r = w ∧ EP X pins σ Q r s') pl.isList (by omega) (by rw [List.size_toArray] <;> omega) (by omega) (by rw [hj]; simpa using ew) ⟨rfl, fin⟩) hs
theorem ix_tup : IxR X (rIxT X.K) := by
  intro value slice pins s σ H x y v u Q I rx ry h hs
  obtain ⟨p, xs, i, z, rfl, rfl, hq, he, q⟩ := h
  cases rx
  obtain ⟨t, rfl⟩ := ry
  obtain ⟨its, r, pl, hz⟩ := I.tuple hq
  obtain ⟨j, h1, h2, h3, h4, h5⟩ := atI_get he
  obtain ⟨w, ew, rw'⟩ := r.get h2
  have hl := r.length
  have hn := line63
  have fin : EP X pins σ Q w s := ⟨z, H, I, rw', q⟩
  exact subscriptTail_builtinR (x := w) pl.typeIs slot_tuple_getitem.lookup
    (getItem_tuple (j := j) (Q := fun r s' => r = w ∧ EP X pins σ Q r s') pl (by omega) (by omega) (by rw [List.size_toArray, ← hl]; exact h1) (by simpa using ew) ⟨rfl, fin⟩) hs
theorem ix_str : IxR X rIxS := by
  intro value slice pins s σ H x y v u Q I rx ry h hs
  obtain ⟨z, i, c, rfl, rfl, hz, he, q⟩ := h
  obtain ⟨t, rfl⟩ := rx
  obtain ⟨t', rfl⟩ := ry
  obtain ⟨j, h1, h2, h3, h4, h5⟩ := atI_get he
  have hl : z.cps.toList.length = z.length := by simp [Str.length]
  rw [hl] at h1 h4 h5
  have hn := line63
  exact tail_any (typeIs_str s z t) slot_str_getitem.lookup (getItem_str (c := c) (by
    have e1 : decide (i < -(2 ^ 63 : Int)) = false := decide_eq_false (by omega)
    have e2 : decide (i ≥ 2 ^ 63) = false := decide_eq_false (by omega)
    rw [e1, e2, Bool.or_false]) (by rw [h1]; simpa using h2) ⟨.str ⟨#[c]⟩, H, I.tok _, ⟨_, rfl⟩, q⟩) hs
/-! ### xs[i] = v, any sign -/
/-! ### slices -/
/-! ### in, not in: flat items -/
noncomputable def flatV : V → Bool
  | .non => true
  | .bl _ => true
  | .int _ => true
  | .str _ => true
  | _ => false
/-- == of flat values -/
noncomputable def eqV : V → V → Bool
  | .non, .non => true
  | .bl a, .bl b => a == b
  | .bl a, .int b => (if a then 1 else 0) == b
  | .int a, .bl b => a == (if b then 1 else 0)
  | .int a, .int b => a == b
  | .str a, .str b => a == b
  | _, _ => false
theorem eqAt_V {A : Around} {s : Shared} {y x : V} {u v : Value} (ry : RelV y u) (rx : RelV x v) (fy : flatV y = true) (fx : flatV x = true) : SeqAt.EqAt A s u v (eqV y x) := by
  cases y with
  | non =>
    cases ry
    cases x with
    | non => cases rx; exact SeqAt.EqAt.same _
    | bl b => cases rx; exact SeqAt.EqAt.none_bool b
    | int b => obtain ⟨t, rfl⟩ := rx; exact SeqAt.EqAt.none_int b t
    | str b => obtain ⟨t, rfl⟩ := rx; exact SeqAt.EqAt.none_str b t
    | _ => exact absurd (show false = true from fx) Bool.false_ne_true
  | bl a =>
    cases ry
    cases x with
    | non => cases rx; exact SeqAt.EqAt.bool_none a
    | bl b => cases rx; exact SeqAt.EqAt.bool_bool a b
    | int b => obtain ⟨t, rfl⟩ := rx; exact SeqAt.EqAt.bool_int a b t
    | str b => obtain ⟨t, rfl⟩ := rx; exact SeqAt.EqAt.bool_str a b t
    | _ => exact absurd (show false = true from fx) Bool.false_ne_true
  | int a =>
    obtain ⟨t', rfl⟩ := ry
    cases x with
    | non => cases rx; exact SeqAt.EqAt.int_none a t'
    | bl b => cases rx; exact SeqAt.EqAt.int_bool a t' b
    | int b => obtain ⟨t, rfl⟩ := rx; exact SeqAt.EqAt.int_int a t' b t
    | str b => obtain ⟨t, rfl⟩ := rx; exact SeqAt.EqAt.int_str a t' b t
    | _ => exact absurd (show false = true from fx) Bool.false_ne_true
  | str a =>
    obtain ⟨t', rfl⟩ := ry
    cases x with
    | non => cases rx; exact SeqAt.EqAt.str_none a t'
    | bl b => cases rx; exact SeqAt.EqAt.str_bool a t' b
    | int b => obtain ⟨t, rfl⟩ := rx; exact SeqAt.EqAt.str_int a t' b t
    | str b => obtain ⟨t, rfl⟩ := rx; exact SeqAt.EqAt.str_str a t' b t
    | _ => exact absurd (show false = true from fx) Bool.false_ne_true
  | _ => exact absurd (show false = true from fy) Bool.false_ne_true
/-- the items' answers, read off the values (a value's own answer does not lean on its token) -/
noncomputable def eqU (x : V) (u : Value) : Bool := match u with
  | .none => eqV .non x
  | .bool b => eqV (.bl b) x
  | .int i _ => eqV (.int i) x
  | .str z _ => eqV (.str z) x
  | _ => false
theorem eqU_of {x y : V} {u : Value} (r : RelV y u) (f : flatV y = true) : eqU x u = eqV y x := by
  cases y with
  | non => cases r; rfl
  | bl b => cases r; rfl
  | int i => obtain ⟨t, rfl⟩ := r; rfl
  | str z => obtain ⟨t, rfl⟩ := r; rfl
  | _ => exact absurd (show false = true from f) Bool.false_ne_true
theorem any_eqU {x : V} : ∀ {xs : List V} {us : List Value}, Vals xs us → xs.all flatV = true → us.any (eqU x) = xs.any fun y => eqV y x
  | _, _, .nil, _ => rfl
  | y :: xs, u :: us, .cons r t, f => by
    rw [List.all_cons, Bool.and_eq_true] at f
    rw [List.any_cons, List.any_cons, eqU_of r f.1, any_eqU t f.2]
theorem mem_eqAt {A : Around} {s : Shared} {x : V} {v : Value} (rx : RelV x v) (fx : flatV x = true) : ∀ {xs : List V} {us : List Value}, Vals xs us → xs.all flatV = true → ∀ u ∈ us, SeqAt.EqAt A s u v (eqU x u)
  | _, _, .nil, _ => fun u hu => by cases hu
  | y :: xs, u :: us, .cons r t, f => fun u' hu => by
    rw [List.all_cons, Bool.and_eq_true] at f
    rcases List.mem_cons.mp hu with rfl | hu
    · rw [eqU_of r f.1]; exact eqAt_V r rx f.1 fx
    · exact mem_eqAt rx fx t f.2 u' hu
noncomputable def inV (x : V) (xs : List V) : Bool := xs.any fun y => eqV y x
/-- x in a list or tuple of flat items -/
noncomputable def rIn (K : PySem.W.Frag) (neg : Bool) : R2 := fun x y H Q => ∃ p xs, y = .ref p ∧ (SqL K H p xs ∨ SqT K H p xs) ∧ flatV x = true ∧ xs.all flatV = true ∧ Q (.bl (if neg then !inV x xs else inV x xs)) H
theorem op_notIn_seq : OpR X (compareOp .NotIn) (rIn X.K true) := by
  intro pins s σ H x y v u Q I rx ry h
  obtain ⟨p, xs, rfl, hq, fx, fs, q⟩ := h
  cases ry
  rcases hq with hq | hq
  · obtain ⟨its, r, pl, hz⟩ := I.list hq
    refine SeqAt.notIn_listAt (eqU x) pl.isList (fun w hw => mem_eqAt rx fx r fs w (by simpa using hw)) ⟨.bl _, H, I, rfl, ?_⟩
    rw [show its.toArray.any (eqU x) = its.any (eqU x) by simp, any_eqU r fs]
    exact q
  · obtain ⟨its, r, pl, hz⟩ := I.tuple hq
    refine SeqAt.notIn_tupleAt (eqU x) pl (fun w hw => mem_eqAt rx fx r fs w (by simpa using hw)) ⟨.bl _, H, I, rfl, ?_⟩
    rw [show its.toArray.any (eqU x) = its.any (eqU x) by simp, any_eqU r fs]
    exact q
/-! ### len, list(x), tuple(x) of any list or tuple that is read -/
theorem call_len_seq : CallR X (.builtin "len") (fun xs H Q => ∃ p ys, xs = [.ref p] ∧ (SqL X.K H p ys ∨ SqT X.K H p ys) ∧ Q (.int ys.length) H) := by
  intro pins s σ H xs us Q I r h
  obtain ⟨p, ys, rfl, hq, q⟩ := h
  obtain ⟨u, rfl, rx⟩ := vals1 r
  cases rx
  have hn := line63
  rcases hq with hq | hq
  · obtain ⟨its, r', pl, hz⟩ := I.list hq
    have hlen := r'.length
    exact Calls.call_len_list pl.isList (by simp only [List.size_toArray] <;> omega) ⟨.int ys.length, H, I.tok _, ⟨s.toks + 1, by rw [List.size_toArray, hlen]⟩, q⟩
  · obtain ⟨its, r', pl, hz⟩ := I.tuple hq
    have hlen := r'.length
    exact len_tuple pl (by simp only [List.size_toArray] <;> omega) ⟨.int ys.length, H, I.tok _, ⟨s.toks + 1, by rw [List.size_toArray, hlen]⟩, q⟩
theorem call_len_str : CallR X (.builtin "len") (fun xs H Q => ∃ z, xs = [.str z] ∧ z.length ≤ sizeLine ∧ Q (.int z.length) H) := by
  intro pins s σ H xs us Q I r h
  obtain ⟨z, rfl, hz, q⟩ := h
  obtain ⟨u, rfl, t, rfl⟩ := vals1 r
  have hn := line63
  exact len_str (by omega) ⟨.int z.length, H, I.tok _, ⟨_, rfl⟩, q⟩
theorem call_list_of : CallR X (.type "list") (fun xs H Q => ∃ p ys, xs = [.ref p] ∧ (SqL X.K H p ys ∨ SqT X.K H p ys) ∧ ∀ l, H l = none → Q (.ref l) (upd H l (.lst ys))) := by
  intro pins s σ H xs us Q I r h
  obtain ⟨p, ys, rfl, hq, q⟩ := h
  obtain ⟨u, rfl, rx⟩ := vals1 r
  cases rx
  have fin : ∀ (its : List Value), Vals ys its → ys.length ≤ sizeLine → ∀ (h' : Heap) (c' : Nat), (∀ b o', s.heap.get? b = some o' → h'.get? b = some o') →
      h'.get? s.heap.objs.size = some { cls := .type "list", dict := none, data := .seq its.toArray c', slots := #[] } → EP X pins σ Q (.ref s.heap.objs.size) { s with heap := h' } := fun its r' hz h' c' kp e =>
    ⟨.ref s.heap.objs.size, _, I.laid (t' := s.toks) kp (Nat.le_refl _) (show ObjOk X.prog X.w _ h' _ (.lst ys) from ⟨hz, its, c', r', e⟩), rfl, q _ (I.hok.fresh (Nat.le_refl _))⟩
  rcases hq with hq | hq
  · obtain ⟨its, r', pl, hz⟩ := I.list hq
    have hlen := r'.length
    obtain ⟨o, ho, hc, n, hd⟩ := pl.isList
    exact call_list_seq p (.inl rfl) ho hc hd (fun h' c' kp e => fin its r' hz h' c' kp e) (by simp only [List.size_toArray] <;> omega)
  · obtain ⟨its, r', pl, hz⟩ := I.tuple hq
    have hlen := r'.length
    obtain ⟨o, ho, hc, n, hd⟩ := pl
    exact call_list_seq p (.inr rfl) ho hc hd (fun h' c' kp e => fin its r' hz h' c' kp e) (by simp only [List.size_toArray] <;> omega)
/-! ### the call of a builtin's method: o.m(..) -/
/-- the value is of that builtin type -/
noncomputable def tyV (K : PySem.W.Frag) (T : String) (x : V) (H : Hp) : Prop := match x with
  | .str _ => T = "str"
  | .int _ => T = "int"
  | .ref p => (T = "list" ∧ ∃ xs, SqL K H p xs) ∨ (T = "tuple" ∧ ∃ o, K.lookup p = some o ∧ o.cls = .type "tuple" ∧ o.dict = none) ∨
      (T = "dict" ∧ ((∃ kvs, H p = some (.dK kvs)) ∨ ∃ kvs, H p = some (.dT kvs))) ∨ (T = "set" ∧ ∃ S n, H p = some (.set S n))
  | _ => False
theorem tyV_is {pins : List (Addr × Obj)} {σ : St} {H : Hp} {s : Shared} {T : String} {x : V} {v : Value} (I : Inv X pins σ H s) (r : RelV x v) (ty : tyV X.K T x H) :
    s.TypeIs v T ∧ ∀ a, v = .ref a → ∃ ob, s.heap.get? a = some ob ∧ ob.dict = none := by
  cases x with
  | str z =>
    obtain ⟨t, rfl⟩ := r
    cases (show T = "str" from ty)
    exact ⟨typeIs_str s z t, fun _ e => nomatch e⟩
  | int i =>
    obtain ⟨t, rfl⟩ := r
    cases (show T = "int" from ty)
    exact ⟨typeIs_int s i t, fun _ e => nomatch e⟩
  | ref p =>
    cases r
    rcases ty with ⟨rfl, xs, hq⟩ | ⟨rfl, o, hk, hc, hd⟩ | ⟨rfl, hk⟩ | ⟨rfl, S, n, hk⟩
    · obtain ⟨its, _, pl, _⟩ := I.list hq
      refine ⟨pl.isList.typeIs, fun a e => ?_⟩
      cases e
      obtain ⟨o, n, e, c, hd, _⟩ := pl
      exact ⟨o, e, hd⟩
    · refine ⟨⟨o, I.kIn p o hk, hc⟩, fun a e => ?_⟩
      cases e
      exact ⟨o, I.kIn _ o hk, hd⟩
    · have z : ∃ o, s.heap.get? p = some o ∧ o.ExactDict := by
        rcases hk with ⟨kvs, hk⟩ | ⟨kvs, hk⟩
        · obtain ⟨_, _, _, _, o, _, _, e, ex, _⟩ := I.hok p _ hk
          exact ⟨o, e, ex⟩
        · obtain ⟨_, _, _, _, o, _, _, e, ex, _⟩ := I.hok p _ hk
          exact ⟨o, e, ex⟩
      obtain ⟨o, e, ex⟩ := z
      refine ⟨⟨o, e, ex.1⟩, fun a e2 => ?_⟩
      cases e2
      exact ⟨o, e, ex.2.1⟩
    · obtain ⟨o, _, _, _, e, ex, _⟩ := I.hok p _ hk
      refine ⟨⟨o, e, ex.1⟩, fun a e2 => ?_⟩
      cases e2
      exact ⟨o, e, ex.2.1⟩
  | _ => exact False.elim ty
noncomputable def tBM0 (K : PySem.W.Frag) (T : String) (r : V → List V → Hp → VK → Prop) (to : TE) : TE := fun σ H Q => to σ H fun x H1 => tyV K T x H1 ∧ r x [] H1 Q
noncomputable def tBM (K : PySem.W.Frag) (T : String) (r : V → List V → Hp → VK → Prop) (to : TE) (t : TA) : TE := fun σ H Q => to σ H fun x H1 => tyV K T x H1 ∧ t σ H1 fun xs H2 => r x xs H2 Q
variable {o e : Expr} {es : List Expr} {to : TE} {t : TA} {name : Str} {apos cpos : Pos} {T id : String} {r : V → List V → Hp → VK → Prop}
theorem pe_bm0 (pa : PlainAttrs T) (slot : Slot T name id) (hty : typeOf (.builtin id) = pure (.type "method_descriptor")) (hm : MtR X id r) (ho : PE X o to)
    (hbase : attributeBase o name X.env (eval o X.env) = eval o X.env := by rfl) (hline : (apos.endLine == cpos.line) = true := by rfl) : PE X (.Call (.Attribute o name apos) [] [] cpos) (tBM0 X.K T r to) := by
  intro pins s σ H Q I h
  refine wpAny_Call_method0_late hbase hline (thn (ho pins s σ H _ I h) fun v s1 ⟨x, H1, I1, r1, ty, q1⟩ => ?_)
  obtain ⟨h1, h2⟩ := tyV_is I1 r1 ty
  exact ⟨T, id, pa, slot, hty, h1, h2, Calls.callWith_builtin rfl (PySem.evalArgs_none (hm pins s1 σ H1 x [] v [] Q I1 r1 .nil q1))⟩
theorem pe_bm (pa : PlainAttrs T) (slot : Slot T name id) (hty : typeOf (.builtin id) = pure (.type "method_descriptor")) (hm : MtR X id r) (ho : PE X o to) (ha : PA X (e :: es) t)
    (hbase : attributeBase o name X.env (eval o X.env) = eval o X.env := by rfl)
    (hfew : ((backTo cpos (starEach (e :: es) X.env)).all (fun x => !x.1) && (backToKw cpos (keywordEach [] X.env)).all (fun x => x.1.isSome)
      && decide ((e :: es).length + ([] : List Keyword).length + (if ([] : List Keyword).isEmpty then 0 else 1) < 30)) = true := by rfl)
    (hline : (apos.endLine == cpos.line) = true := by rfl) (hs : starEach (e :: es) X.env = (false, eval e X.env) :: starEach es X.env := by exact star_of rfl) (hplain : (backTo cpos (starEach es X.env)).any (·.1) = false := by rfl) :
    PE X (.Call (.Attribute o name apos) (e :: es) [] cpos) (tBM X.K T r to t) := by
  intro pins s σ H Q I h
  refine wpAny_Call_method_late hbase hfew hline rfl (thn (ho pins s σ H _ I h) fun v s1 ⟨x, H1, I1, r1, ty, q1⟩ => ?_)
  obtain ⟨h1, h2⟩ := tyV_is I1 r1 ty
  refine ⟨T, id, pa, slot, hty, h1, h2, ?_⟩
  have hA := ha cpos pins s1 σ H1 _ I1 q1
  rw [hs] at hA ⊢
  refine Calls.callWith_builtin (by show (false || (backTo cpos (starEach es X.env)).any (·.1)) = false; rw [hplain] <;> rfl) (Calls.evalArgs_plain ?_)
  exact thn hA fun us s2 ⟨vs, H2, I2, r2, q2⟩ => hm pins s2 σ H2 x vs v us Q I2 r1 r2 q2
/- xs.append(e), list.index on a module's tuple .. are MtR facts of 06m -/
end
end L2

namespace L2
open PySem PySem.Spec PyProof.Rows

noncomputable def MtM (X : Cx) (id : String) (r : V → List V → Hp → VK → Prop) : Prop :=
  ∀ (pins : List (Addr × Obj)) (s : Shared) (σ : St) (H : Hp) (x : V) (xs : List V) (v : Value) (us : List Value) (Q : VK), Inv X pins σ H s → RelV x v → Vals xs us → r x xs H Q →
    wpAny (model X.prog X.w) X.A (call (.builtin id) (v :: us)) (EP X pins σ Q) X.xe s

/-! ### lists of values -/
theorem Vals.one : ∀ {x : V} {us : List Value}, Vals [x] us → ∃ u, us = [u] ∧ RelV x u
  | _, _, .cons r .nil => ⟨_, rfl, r⟩
theorem Vals.two : ∀ {x y : V} {us : List Value}, Vals [x, y] us → ∃ u v, us = [u, v] ∧ RelV x u ∧ RelV y v
  | _, _, _, .cons r (.cons q .nil) => ⟨_, _, rfl, r, q⟩
theorem Vals.zero : ∀ {us : List Value}, Vals [] us → us = []
  | _, .nil => rfl
theorem Vals.dropLast {xs : List V} {us : List Value} (h : Vals xs us) : Vals xs.dropLast us.dropLast := by
  induction h with
  | nil => exact .nil
  | cons r t ih =>
    cases t with
    | nil => exact .nil
    | cons q t' => exact .cons r ih
theorem erase_last {α : Type} (l : List α) : l.eraseIdx (l.length - 1) = l.dropLast := by
  induction l with
  | nil => rfl
  | cons a r ih =>
    cases r with
    | nil => rfl
    | cons b r =>
      have e : (a :: b :: r).length - 1 = ((b :: r).length - 1) + 1 := by
        have h1 : (a :: b :: r).length = r.length + 2 := rfl
        have h2 : (b :: r).length = r.length + 1 := rfl
        omega
      rw [e, List.eraseIdx_cons_succ, ih]
      all_goals rfl
section
variable {X : Cx} {pins : List (Addr × Obj)} {σ : St} {H : Hp} {s : Shared} {l b : Addr} {xs ys zs : List V}

/-! ### the two steps: a tracked list is rewritten, a new list is laid -/
theorem Inv.lset {its its' : List Value} {n : Nat} {f : Array Value → Array Value} {t' : Nat} (I : Inv X pins σ H s) (hH : H l = some (.lst xs))
    (e : s.heap.get? l = some { cls := .type "list", data := .seq its.toArray n }) (hf : f its.toArray = its'.toArray) (hv : Vals ys its') (hz : ys.length ≤ sizeLine) :
    Inv X pins σ (upd H l (.lst ys)) { s with heap := s.heap.update l (Obj.mapSeq f), toks := t' } := by
  have q := PySem.IsL.update e f
  rw [hf] at q
  refine I.write (x := l) (e := l) (by rw [hH]; exact trivial) (.inl rfl) (fun b' u hb hu => (Heap.get?_update_other s.heap (Obj.mapSeq f) (Ne.symm hb)).trans hu) ⟨_, q⟩ ?_
  exact ⟨hz, its', _, hv, q⟩
theorem Inv.lnew {its : List Value} {t' : Nat} (I : Inv X pins σ H s) (hv : Vals ys its) (hz : ys.length ≤ sizeLine) :
    Inv X pins σ (upd H s.heap.objs.size (.lst ys)) { s with heap := s.heap.push { cls := .type "list", data := .seq its.toArray }, toks := t' } :=
  I.laid (fun _ _ q => Heap.get?_push_of_some _ q) (Nat.le_refl _) ⟨hz, its, 0, hv, Heap.get?_push_size _ rfl⟩
theorem Inv.fresh (I : Inv X pins σ H s) : H s.heap.objs.size = none := I.hok.fresh (Nat.le_refl _)
theorem Inv.lstM (I : Inv X pins σ H s) (hH : H l = some (.lst xs)) : xs.length ≤ sizeLine ∧ ∃ (its : List Value) (n : Nat), Vals xs its ∧ xs.length = its.length ∧ s.heap.get? l = some { cls := .type "list", data := .seq its.toArray n } := by
  obtain ⟨z, its, n, r, e⟩ := I.hok l _ hH
  exact ⟨z, its, n, r, r.length, e⟩

end

section
variable {X : Cx}

/-! ### methods -/
noncomputable def rAppend : V → List V → Hp → VK → Prop := fun x vs H Q => ∃ l xs y, x = .ref l ∧ vs = [y] ∧ H l = some (.lst xs) ∧ xs.length < sizeLine ∧ Q .non (upd H l (.lst (xs ++ [y])))
theorem mt_append : MtM X "list.append" rAppend := by
  intro pins s σ H x vs v us Q I rx rv h
  obtain ⟨l, xs, y, rfl, rfl, hH, hz, q⟩ := h
  cases rx
  obtain ⟨u, rfl, ru⟩ := rv.one
  obtain ⟨z, its, n, r, hl, e⟩ := I.lstM hH
  refine call_meets F.slot_list_append ⟨_, e, rfl⟩ F.entry_list_append (F.args_list_append_2 _ _) (PySem.list_append l its.toArray n u (by rw [List.size_toArray]; omega)) ⟨e, ?_⟩
  refine ⟨.non, _, I.lset (its' := its ++ [u]) hH e (by simp) (r.append (.cons ru .nil)) ?_, rfl, q⟩
  rw [List.length_append, List.length_singleton]
  omega

noncomputable def rPop : V → List V → Hp → VK → Prop := fun x vs H Q => ∃ l xs y, x = .ref l ∧ vs = [] ∧ H l = some (.lst xs) ∧ xs[xs.length - 1]? = some y ∧ Q y (upd H l (.lst xs.dropLast))
theorem mt_pop : MtM X "list.pop" rPop := by
  intro pins s σ H x vs v us Q I rx rv h
  obtain ⟨l, xs, y, rfl, rfl, hH, hy, q⟩ := h
  cases rx
  have hus := rv.zero
  subst hus
  obtain ⟨z, its, n, r, hl, e⟩ := I.lstM hH
  obtain ⟨u, hu, ru⟩ := r.get hy
  have hy' : its.toArray[its.toArray.size - 1]? = some u := by
    show its.toArray[its.length - 1]? = some u
    rw [← Array.getElem?_toList, ← hl]
    exact hu
  refine call_meets F.slot_list_pop ⟨_, e, rfl⟩ F.entry_list_pop (F.args_list_pop_1 _) (MeetsSeq.list_pop_last l its.toArray n u hy' (by rw [List.size_toArray]; omega)) ⟨e, ?_⟩
  refine ⟨y, _, I.lset (its' := its.dropLast) hH e ?_ r.dropLast ?_, ru, q⟩
  · show its.toArray.eraseIdxIfInBounds (its.toArray.size - 1) = its.dropLast.toArray
    rw [List.size_toArray, List.eraseIdxIfInBounds_toArray, erase_last]
  · rw [List.length_dropLast]
    omega

/-! ### list + list, list += list, list * int -/
noncomputable def rCat : R2 := fun x y H Q => ∃ l b xs zs, x = .ref l ∧ y = .ref b ∧ H l = some (.lst xs) ∧ H b = some (.lst zs) ∧ xs.length + zs.length ≤ sizeLine ∧ ∀ p, H p = none → Q (.ref p) (upd H p (.lst (xs ++ zs)))
theorem op_cat : OpR X (binaryOp .Add) rCat := by
  intro pins s σ H x y v u Q I rx ry h
  obtain ⟨l, b, xs, zs, rfl, rfl, hH, hB, hz, q⟩ := h
  cases rx
  cases ry
  obtain ⟨z, its, n, r, hl, e⟩ := I.lstM hH
  obtain ⟨z2, its2, n2, r2, hl2, e2⟩ := I.lstM hB
  refine PySem.P.add_list e e2 ?_ (by rw [List.size_toArray, List.size_toArray]; omega)
  have ea : its.toArray ++ its2.toArray = (its ++ its2).toArray := by simp
  rw [ea]
  exact ⟨.ref _, _, I.lnew (t' := s.toks) (r.append r2) (by rw [List.length_append]; omega), rfl, q _ I.fresh⟩
/-! ### del xs[i] -/
end

/-! ### xs[a:b] = ys -/
section
variable {prog : Program} {w : World} {A : Around} {E : Value → Shared → Prop} {s : Shared}
set_option maxRecDepth 100000 in
end

section
variable {X : Cx}
end
end L2

namespace L2
open PySem PySem.Spec PyProof.Rows

/-! ### lists of pairs as tables -/
section
variable {κ : Type} [DecidableEq κ]
noncomputable def valV (kvs : List (κ × V)) (k : κ) : Option V := (kvs.find? fun kv => decide (kv.1 = k)).map (·.2)
/-- in its place, or at the end -/
noncomputable def putK (kvs : List (κ × V)) (k : κ) (v : V) : List (κ × V) :=
  if (kvs.any fun kv => decide (kv.1 = k)) = true then kvs.map (fun kv => if kv.1 = k then (kv.1, v) else kv) else kvs ++ [(k, v)]
theorem valV_pos {p : κ × V} {r : List (κ × V)} {k : κ} (e : p.1 = k) : valV (p :: r) k = some p.2 := by simp [valV, List.find?_cons, e]
theorem valV_neg {p : κ × V} {r : List (κ × V)} {k : κ} (e : ¬ p.1 = k) : valV (p :: r) k = valV r k := by simp [valV, List.find?_cons, e]
theorem valV_any (k : κ) : ∀ kvs : List (κ × V), (kvs.any fun kv => decide (kv.1 = k)) = (valV kvs k).isSome
  | [] => rfl
  | p :: r => by
    rw [List.any_cons]
    by_cases e : p.1 = k
    · simp only [valV_pos e, decide_eq_true e, Bool.true_or, Option.isSome_some]
    · rw [valV_neg e, decide_eq_false e, Bool.false_or]; exact valV_any k r
theorem valV_map (k j : κ) (y : V) : ∀ kvs : List (κ × V), valV (kvs.map fun kv => if kv.1 = k then (kv.1, y) else kv) j = (valV kvs j).map fun x => if j = k then y else x
  | [] => rfl
  | p :: r => by
    have ih := valV_map k j y r
    rw [List.map_cons]
    by_cases h : p.1 = k
    · rw [if_pos h]
      by_cases e : p.1 = j
      · rw [valV_pos (p := (p.1, y)) e, valV_pos e, Option.map_some, if_pos (e.symm.trans h)]
      · rw [valV_neg (p := (p.1, y)) e, valV_neg e, ih]
    · rw [if_neg h]
      by_cases e : p.1 = j
      · rw [valV_pos (p := p) e, valV_pos e, Option.map_some, if_neg (fun z => h (e.trans z))]
      · rw [valV_neg (p := p) e, valV_neg e, ih]
theorem valV_snoc (k j : κ) (y : V) : ∀ kvs : List (κ × V), valV kvs k = none → valV (kvs ++ [(k, y)]) j = if j = k then some y else valV kvs j
  | [], _ => by
    by_cases e : k = j
    · rw [if_pos e.symm]; exact valV_pos (p := (k, y)) e
    · rw [if_neg (fun z => e z.symm)]; exact valV_neg (p := (k, y)) e
  | p :: r, hn => by
    rw [List.cons_append]
    have hk : ¬ p.1 = k := fun z => by rw [valV_pos z] at hn; cases hn
    rw [valV_neg hk] at hn
    have ih := valV_snoc k j y r hn
    by_cases e : p.1 = j
    · rw [valV_pos e, valV_pos e, if_neg (fun z => hk (e.trans z))]
    · rw [valV_neg e, valV_neg e, ih]
theorem valV_put (kvs : List (κ × V)) (k j : κ) (y : V) : valV (putK kvs k y) j = if j = k then some y else valV kvs j := by
  unfold putK
  by_cases a : (kvs.any fun kv => decide (kv.1 = k)) = true
  · rw [if_pos a, valV_map]
    rw [valV_any] at a
    by_cases e : j = k
    · obtain ⟨x, hx⟩ := Option.isSome_iff_exists.mp a
      rw [if_pos e, e, hx, Option.map_some, if_pos rfl]
    · rw [if_neg e]
      cases valV kvs j with
      | none => rfl
      | some x => rw [Option.map_some, if_neg e]
  · rw [if_neg a]
    refine valV_snoc k j y kvs ?_
    rw [valV_any] at a
    cases q : valV kvs k with
    | none => rfl
    | some x => rw [q] at a; exact (a rfl).elim
theorem length_putK (kvs : List (κ × V)) (k : κ) (v : V) : (putK kvs k v).length ≤ kvs.length + 1 := by
  unfold putK
  split
  · rw [List.length_map]; omega
  · rw [List.length_append, List.length_cons, List.length_nil]; omega
theorem putK_new {kvs : List (κ × V)} {k : κ} (v : V) (h : valV kvs k = none) : putK kvs k v = kvs ++ [(k, v)] := by
  unfold putK
  rw [valV_any, h]
  exact if_neg (by decide)

theorem RelO.isSome_eq {o : Option V} {u : Option Value} (r : RelO o u) : o.isSome = u.isSome := by
  cases o with
  | none => cases u with
    | none => rfl
    | some _ => exact (show False from r).elim
  | some _ => cases u with
    | none => exact (show False from r).elim
    | some _ => rfl
theorem RelO.getD {o : Option V} {u : Option Value} {d : V} {d' : Value} (r : RelO o u) (rd : RelV d d') : RelV (o.getD d) (u.getD d') := by
  cases o with
  | none => cases u with
    | none => exact rd
    | some _ => exact (show False from r).elim
  | some _ => cases u with
    | none => exact (show False from r).elim
    | some _ => exact r

/-- raw tables of the same keys -/
theorem KV.val {kvs : List (κ × V)} {vs : List (κ × Value)} (r : KV kvs vs) (k : κ) : RelO (valV kvs k) (valueAt vs k) := by
  unfold KV at r
  induction r with
  | nil => exact True.intro
  | @cons p q ps qs h t ih =>
    obtain ⟨h1, h2⟩ := h
    by_cases e : p.1 = k
    · have e' : q.1 = k := h1.symm.trans e
      have b : valueAt (q :: qs) k = some q.2 := by simp [valueAt, List.find?_cons, e']
      rw [valV_pos e, b]; exact h2
    · have e' : ¬ q.1 = k := fun z => e (h1.trans z)
      have b : valueAt (q :: qs) k = valueAt qs k := by simp [valueAt, List.find?_cons, e']
      rw [valV_neg e, b]; exact ih
theorem KV.any {kvs : List (κ × V)} {vs : List (κ × Value)} (r : KV kvs vs) (k : κ) : (kvs.any fun kv => decide (kv.1 = k)) = vs.any fun kv => decide (kv.1 = k) := by
  unfold KV at r
  induction r with
  | nil => rfl
  | cons h t ih => rw [List.any_cons, List.any_cons, ih, h.1]
theorem KV.repl {kvs : List (κ × V)} {vs : List (κ × Value)} (r : KV kvs vs) (k : κ) {y : V} {u : Value} (ry : RelV y u) :
    KV (kvs.map fun kv => if kv.1 = k then (kv.1, y) else kv) (vs.map fun kv => if kv.1 = k then (kv.1, u) else kv) := by
  unfold KV at r ⊢
  induction r with
  | nil => exact .nil
  | @cons p q ps qs h t ih =>
    rw [List.map_cons, List.map_cons]
    refine .cons ?_ ih
    obtain ⟨h1, h2⟩ := h
    by_cases e : p.1 = k
    · rw [if_pos e, if_pos (h1.symm.trans e)]; exact ⟨h1, ry⟩
    · rw [if_neg e, if_neg (fun z => e (h1.trans z))]; exact ⟨h1, h2⟩
theorem KV.put {kvs : List (κ × V)} {vs : List (κ × Value)} (r : KV kvs vs) (k : κ) {y : V} {u : Value} (ry : RelV y u) : KV (putK kvs k y) (stored vs k u) := by
  unfold putK stored
  rw [r.any k]
  by_cases e : (vs.any fun kv => decide (kv.1 = k)) = true
  · rw [if_pos e, if_pos e]; exact r.repl k ry
  · rw [if_neg e, if_neg e]; exact Paired.snoc r ⟨rfl, ry⟩
theorem KV.keys {kvs : List (κ × V)} {vs : List (κ × Value)} (r : KV kvs vs) : kvs.map (·.1) = vs.map (·.1) := by
  unfold KV at r
  induction r with
  | nil => rfl
  | cons h t ih => rw [List.map_cons, List.map_cons, ih, h.1]
theorem KV.length {kvs : List (κ × V)} {vs : List (κ × Value)} (r : KV kvs vs) : kvs.length = vs.length := Paired.length r
end


/-! ### a tracked dict, its keys ints and texts or tuples of these -/
theorem kV_is {P : Program} {w : World} {k : Key} {u : Value} (r : RelV (kV k) u) : (mixKind P w).is k u = true := by
  cases k with
  | inl i => obtain ⟨t, e⟩ := (show ∃ t, u = Value.int i t from r); subst e; exact mixKind_int P w i t
  | inr x => obtain ⟨t, e⟩ := (show ∃ t, u = Value.str x t from r); subst e; exact mixKind_str P w x t
theorem items_are {P : Program} {w : World} : ∀ {ks : List Key} {us : List Value}, Vals (ks.map kV) us → ItemsAre (mixKind P w) ks us
  | [], _, r => by rw [List.map_nil] at r; cases r; exact .nil
  | k :: ks, _, r => by
    rw [List.map_cons] at r
    cases r with
    | cons h t => exact .cons (kV_is h) (items_are t)

/-- raw entries of a dict with tuple keys -/
noncomputable abbrev KT (H : Hp) : List (List Key × V) → List (List Key × Addr × Value) → Prop := Paired fun p q => p.1 = q.1 ∧ H q.2.1 = some (.tup (p.1.map kV)) ∧ RelV p.2 q.2.2
theorem KT.val {H : Hp} {kvs : List (List Key × V)} {xs : List (List Key × Addr × Value)} (r : KT H kvs xs) (k : List Key) : RelO (valV kvs k) ((atKey xs k).map (·.2)) := by
  induction r with
  | nil => exact True.intro
  | @cons p q ps qs h t ih =>
    obtain ⟨h1, _, h2⟩ := h
    by_cases e : p.1 = k
    · have e' : q.1 = k := h1.symm.trans e
      have b : atKey (q :: qs) k = some q.2 := by simp [atKey, List.find?_cons, e']
      rw [valV_pos e, b]; exact h2
    · have e' : ¬ q.1 = k := fun z => e (h1.trans z)
      have b : atKey (q :: qs) k = atKey qs k := by simp [atKey, List.find?_cons, e']
      rw [valV_neg e, b]; exact ih
theorem KT.repl {H : Hp} {kvs : List (List Key × V)} {xs : List (List Key × Addr × Value)} (r : KT H kvs xs) (k : List Key) {y : V} {u : Value} (ry : RelV y u) :
    KT H (kvs.map fun kv => if kv.1 = k then (kv.1, y) else kv) (xs.map (putAt k u)) := by
  induction r with
  | nil => exact .nil
  | @cons p q ps qs h t ih =>
    rw [List.map_cons, List.map_cons]
    refine .cons ?_ ih
    obtain ⟨h1, h2, h3⟩ := h
    unfold putAt
    by_cases e : p.1 = k
    · rw [if_pos e, if_pos (h1.symm.trans e)]; exact ⟨h1, h2, ry⟩
    · rw [if_neg e, if_neg (fun z => e (h1.trans z))]; exact ⟨h1, h2, h3⟩
theorem KT.put {H : Hp} {kvs : List (List Key × V)} {xs : List (List Key × Addr × Value)} (r : KT H kvs xs) (k : List Key) {b : Addr} {y : V} {u : Value} (hb : H b = some (.tup (k.map kV))) (ry : RelV y u) :
    KT H (putK kvs k y) (storedH xs k b u) := by
  have e : (kvs.any fun kv => decide (kv.1 = k)) = (atKey xs k).isSome := by
    rw [valV_any, (r.val k).isSome_eq, Option.isSome_map]
  unfold putK storedH
  rw [e]
  by_cases q : (atKey xs k).isSome = true
  · rw [if_pos q, if_pos q]; exact r.repl k ry
  · rw [if_neg q, if_neg q]; exact Paired.snoc r ⟨rfl, hb, ry⟩
theorem KT.keeps {H H' : Hp} {kvs : List (List Key × V)} {xs : List (List Key × Addr × Value)} (r : KT H kvs xs) (ht : ∀ b ys, H b = some (.tup ys) → H' b = some (.tup ys)) : KT H' kvs xs :=
  Paired.mapP r fun _ _ z => ⟨z.1, ht _ _ z.2.1, z.2.2⟩

section
variable {P : Program} {w : World} {H : Hp} {h : Heap} {a : Addr}
theorem rd_of {u : HO} (ok : HOk P w H h) (e : Rd H a u) : ObjOk P w H h a u := e.ok ok
theorem dk_rd {kvs : List (Key × V)} (ok : HOk P w H h) (e : Rd H a (.dK kvs)) : kvs.length ≤ sizeLine ∧ (a == sysModules) = false ∧ ∃ vs, KV kvs vs ∧ h.DictOf (mixKind P w) a vs :=
  show ObjOk P w H h a (.dK kvs) from rd_of ok e
theorem dk_of {kvs : List (Key × V)} (ok : HOk P w H h) (e : H a = some (.dK kvs)) : kvs.length ≤ sizeLine ∧ (a == sysModules) = false ∧ ∃ vs, KV kvs vs ∧ h.DictOf (mixKind P w) a vs := dk_rd ok (.inl e)
/-- a tracked tuple of ints and texts is a key -/
theorem key_of {ks : List Key} (ok : HOk P w H h) (e : H a = some (.tup (ks.map kV))) : (tupleKind (mixKind P w)).is h ks a := by
  obtain ⟨_, its, r, o, h1, h2, n, h3⟩ := (show ObjOk P w H h a (.tup (ks.map kV)) from ok a _ e)
  exact ⟨o, its.toArray, n, h1, h2, h3, by simpa using items_are r⟩
theorem dt_rd {kvs : List (List Key × V)} (ok : HOk P w H h) (e : Rd H a (.dT kvs)) : kvs.length ≤ sizeLine ∧ (a == sysModules) = false ∧
    ∃ xs, KT H kvs xs ∧ h.DictOfH (tupleKind (mixKind P w)) a xs := by
  obtain ⟨z, y, xs, r, o, es, ep, h1, h2, h3, h4, h5⟩ := (show ObjOk P w H h a (.dT kvs) from rd_of ok e)
  refine ⟨z, y, xs, r, o, es, ep, h1, h2, h3, h4, fun x hx => ?_, h5⟩
  have all : ∀ {l : List (List Key × V)} {m : List (List Key × Addr × Value)}, KT H l m → ∀ x ∈ m, (tupleKind (mixKind P w)).is h x.1 x.2.1 := by
    intro l m q
    induction q with
    | nil => intro x hx; exact nomatch hx
    | @cons p q ps qs hq t ih =>
      intro x hx
      rcases List.mem_cons.mp hx with e | hx
      · subst e
        exact key_of ok (by rw [← hq.1]; exact hq.2.1)
      · exact ih x hx
  exact all r x hx
theorem dt_of {kvs : List (List Key × V)} (ok : HOk P w H h) (e : H a = some (.dT kvs)) : kvs.length ≤ sizeLine ∧ (a == sysModules) = false ∧
    ∃ xs, KT H kvs xs ∧ h.DictOfH (tupleKind (mixKind P w)) a xs := dt_rd ok (.inl e)
end

/-- what the dict at a holds at the key y -/
noncomputable def DGet (H : Hp) (a : Addr) (y : V) (r : Option V) : Prop :=
  (∃ kvs k, Rd H a (.dK kvs) ∧ y = kV k ∧ r = valV kvs k) ∨ ∃ kvs k b, Rd H a (.dT kvs) ∧ y = .ref b ∧ H b = some (.tup (k.map kV)) ∧ r = valV kvs k
/-- the heap behind a[y] = v -/
noncomputable def DPut (H : Hp) (a : Addr) (y v : V) (H' : Hp) : Prop :=
  (∃ kvs k, H a = some (.dK kvs) ∧ y = kV k ∧ kvs.length < sizeLine ∧ H' = upd H a (.dK (putK kvs k v))) ∨
  ∃ kvs k b, H a = some (.dT kvs) ∧ y = .ref b ∧ H b = some (.tup (k.map kV)) ∧ kvs.length < sizeLine ∧ H' = upd H a (.dT (putK kvs k v))
theorem DGet.k {H : Hp} {a : Addr} {kvs : List (Key × V)} {k : Key} (e : H a = some (.dK kvs)) : DGet H a (kV k) (valV kvs k) := .inl ⟨kvs, k, .inl e, rfl, rfl⟩
theorem DPut.k {H : Hp} {a : Addr} {kvs : List (Key × V)} {k : Key} {v : V} (e : H a = some (.dK kvs)) (hl : kvs.length < sizeLine) : DPut H a (kV k) v (upd H a (.dK (putK kvs k v))) := .inl ⟨kvs, k, e, rfl, hl, rfl⟩
section
variable {X : Cx} {pins : List (Addr × Obj)} {σ : St} {H : Hp} {s : Shared} {a : Addr} {y v : V} {u r : Value} {o : Option V} {A : Around} {E : Value → Shared → Prop}

theorem Inv.big (I : Inv X pins σ H s) : sysModules < s.heap.objs.size := by
  have h : mainGlobals < s.heap.objs.size := (I.mod.glob.keeps I.bk).lt
  exact Nat.lt_trans (by decide) h

/-- d[y], there -/
theorem d_getItem {Q : Value → Shared → Prop} (hu : A.units + 1 < cLine) (I : Inv X pins σ H s) (g : DGet H a y (some v)) (ry : RelV y u) (h : ∀ w' s', Inv X pins σ H s' → RelV v w' → Q w' s') :
    wpAny (model X.prog X.w) A (getItem (.ref a) u) Q E s := by
  rcases g with ⟨kvs, k, e, ey, l⟩ | ⟨kvs, k, b, e, ey, eb, l⟩
  · subst ey
    obtain ⟨z, hd, vs, rel, dd⟩ := dk_rd I.hok e
    obtain ⟨w', hw, rw'⟩ := RelO.some_of (v := v) (o := valueAt vs k) (by rw [l]; exact rel.val k)
    exact wpAny_getItem_of (kV_is ry) dd.mapOf hw (h w' _ (I.tok _) rw')
  · subst ey
    cases (show u = Value.ref b from ry)
    obtain ⟨z, hd, xs, rel, dd⟩ := dt_rd I.hok e
    obtain ⟨w', hw, rw'⟩ := RelO.some_of (v := v) (o := (atKey xs k).map (·.2)) (by rw [l]; exact rel.val k)
    obtain ⟨p, hp, hp2⟩ := Option.map_eq_some_iff.mp hw
    refine wpAny_getItem_heap (tupleKind_room_in1 hu) (key_of I.hok eb) dd hp ?_
    rw [hp2]
    exact h w' _ (I.tok _) rw'
/-- y in d -/
theorem d_in {Q : Value → Shared → Prop} (hu : A.units + 1 < cLine) (I : Inv X pins σ H s) (g : DGet H a y o) (ry : RelV y u) (h : ∀ s', Inv X pins σ H s' → Q (.bool o.isSome) s') :
    wpAny (model X.prog X.w) A (compareOp .In u (.ref a)) Q E s := by
  rcases g with ⟨kvs, k, e, ey, l⟩ | ⟨kvs, k, b, e, ey, eb, l⟩
  · subst ey
    obtain ⟨z, hd, vs, rel, dd⟩ := dk_rd I.hok e
    refine wpAny_in_of (kV_is ry) hd dd.mapOf ?_
    rw [← (rel.val k).isSome_eq, ← l]
    exact h _ (I.tok _)
  · subst ey
    cases (show u = Value.ref b from ry)
    obtain ⟨z, hd, xs, rel, dd⟩ := dt_rd I.hok e
    refine wpAny_in_heap (tupleKind_room_in1 hu) (key_of I.hok eb) hd dd ?_
    have q := (rel.val k).isSome_eq
    rw [Option.isSome_map] at q
    rw [← q, ← l]
    exact h _ (I.tok _)
theorem d_notIn {Q : Value → Shared → Prop} (hu : A.units + 1 < cLine) (I : Inv X pins σ H s) (g : DGet H a y o) (ry : RelV y u) (h : ∀ s', Inv X pins σ H s' → Q (.bool (!o.isSome)) s') :
    wpAny (model X.prog X.w) A (compareOp .NotIn u (.ref a)) Q E s := by
  rcases g with ⟨kvs, k, e, ey, l⟩ | ⟨kvs, k, b, e, ey, eb, l⟩
  · subst ey
    obtain ⟨z, hd, vs, rel, dd⟩ := dk_rd I.hok e
    refine wpAny_notIn_of (kV_is ry) hd dd.mapOf ?_
    rw [← (rel.val k).isSome_eq, ← l]
    exact h _ (I.tok _)
  · subst ey
    cases (show u = Value.ref b from ry)
    obtain ⟨z, hd, xs, rel, dd⟩ := dt_rd I.hok e
    refine wpAny_notIn_heap (tupleKind_room_in1 hu) (key_of I.hok eb) hd dd ?_
    have q := (rel.val k).isSome_eq
    rw [Option.isSome_map] at q
    rw [← q, ← l]
    exact h _ (I.tok _)
/-- a dict's object is replaced -/
theorem d_write {h' : Heap} {t' : Nat} {ob : HO} (I : Inv X pins σ H s) (mu : Mut (H a)) (hs : Heap.SameBut a s.heap h') (he : ∃ q, h'.get? a = some q) (new : ObjOk X.prog X.w (upd H a ob) h' a ob) :
    Inv X pins σ (upd H a ob) { s with heap := h', toks := t' } :=
  I.write (x := a) (e := a) mu (.inl rfl) (fun b q hb z => (hs.2 b hb).trans z) he new
theorem dk_new {P : Program} {w : World} {H' : Hp} {h' : Heap} {kvs : List (Key × V)} {vs : List (Key × Value)} (z : kvs.length ≤ sizeLine) (hd : (a == sysModules) = false) (rel : KV kvs vs) (dd : h'.DictOf (mixKind P w) a vs) :
    ObjOk P w H' h' a (.dK kvs) := ⟨z, hd, vs, rel, dd⟩
/-- d[y] = v -/
theorem d_setItem {H' : Hp} {Q : Unit → Shared → Prop} (hu : A.units + 1 < cLine) (I : Inv X pins σ H s) (g : DPut H a y v H') (ry : RelV y u) (rv : RelV v r) (h : ∀ s', Inv X pins σ H' s' → Q () s') :
    wpAny (model X.prog X.w) A (setItem (.ref a) u r) Q E s := by
  rcases g with ⟨kvs, k, e, ey, l, eH⟩ | ⟨kvs, k, b, e, ey, eb, l, eH⟩
  · subst ey eH
    obtain ⟨z, hd, vs, rel, dd⟩ := dk_of I.hok e
    have hz : vs.length ≤ sizeLine := by rw [← rel.length]; exact z
    have hl : (putK kvs k v).length ≤ sizeLine := by have := length_putK kvs k v; omega
    refine wpAny_setItem_pairs (hsz := hz) (kV_is ry) dd fun h' dd' hs => h _ ?_
    have he : ∃ q, h'.get? a = some q := let ⟨q, _, _, hq, _⟩ := dd'; ⟨q, hq⟩
    exact d_write I (by rw [e]; exact True.intro) hs he (dk_new hl hd (rel.put k rv) dd')
  · subst ey eH
    cases (show u = Value.ref b from ry)
    obtain ⟨z, hd, xs, rel, dd⟩ := dt_of I.hok e
    have hz : xs.length ≤ sizeLine := by rw [← Paired.length rel]; exact z
    have hl : (putK kvs k v).length ≤ sizeLine := by have := length_putK kvs k v; omega
    refine wpAny_setItem_heap (hsz := hz) (tupleKind_room_in1 hu) (key_of I.hok eb) dd fun h' dd' hs => h _ ?_
    obtain ⟨q, es, ep, hq, h2, h3, h4, _, h5⟩ := dd'
    refine d_write I (by rw [e]; exact True.intro) hs ⟨q, hq⟩ ⟨hl, hd, _, (rel.put k eb rv).keeps fun c ys ec => ?_, q, es, ep, hq, h2, h3, h4, h5⟩
    rw [upd_ne (ne_of ec e (fun z => nomatch z))]
    exact ec
end

section
variable {X : Cx} {pins : List (Addr × Obj)} {σ : St} {H : Hp} {s : Shared} {a : Addr} {kvs : List (Key × V)} {k : Key} {u : Value} {A : Around} {E : Value → Shared → Prop}
end


/-! ### readings and rules -/
/-- the element of a subscription, not a slice -/
noncomputable def NoSl (i : Expr) : Prop := ∀ ov iv, subscripted i false ov iv = operate [ov, iv] (getItem ov iv)
theorem subD_of {prog : Program} {w : World} {A : Around} {E : Value → Shared → Prop} {s : Shared} {env : Env} {value slice : Expr} {pos : Pos} {T id : String} {Q : Value → Shared → Prop}
    (hl : typeLookup (.type T) "__getitem__" = pure (some (.builtin id))) (hs : NoSl slice)
    (h : wpAny (model prog w) A (eval value env) (fun o s₁ => wpAny (model prog w) A (eval slice env) (fun i s₂ => s₂.TypeIs o T ∧ wpAny (model prog w) A (getItem o i) Q E s₂) E s₁) E s) :
    wpAny (model prog w) A (eval (.Subscript value slice pos) env) Q E s := by
  refine Subscript_ (wpAny_mono h (fun o s₁ h₁ => wpAny_mono h₁ (fun i s₂ h₂ => ?_) fun _ _ x => x) fun _ _ x => x)
  obtain ⟨hT, h₂⟩ := h₂
  unfold subscriptTail
  refine wpAny_bind ?_
  rw [getitemInPython_of_ne hT.not_modules]
  refine wpAny_bind (wpAny_specialOf hT hl ?_)
  have fin : wpAny (model prog w) A (subscripted slice false o i) (fun r s₃ => wpAny (model prog w) A (letTemporaryGo value o r >>= fun _ => pure r) Q E s₃) E s₂ := by
    rw [hs o i]
    exact wpAny_operating (wpAny_mono h₂ (fun r s₃ h₃ => wpAny_bind (wpAny_letTemporaryGo (wpAny_pure h₃))) fun _ _ x => x)
  first
    | exact wpAny_pure (wpAny_bind fin)
    | exact wpAny_bind (wpAny_pure (wpAny_bind fin))
    | exact wpAny_bind fin

theorem dict_typeIs {X : Cx} {pins : List (Addr × Obj)} {σ : St} {H : Hp} {s : Shared} {a : Addr} {y : V} {o : Option V} (I : Inv X pins σ H s) (g : DGet H a y o) : s.TypeIs (.ref a) "dict" := by
  rcases g with ⟨kvs, k, e, _, _⟩ | ⟨kvs, k, b, e, _, _, _⟩
  · obtain ⟨_, _, vs, _, dd⟩ := dk_rd I.hok e
    exact dd.typeIs
  · obtain ⟨_, _, xs, _, dd⟩ := dt_rd I.hok e
    exact dd.typeIs
/-- d[y] -/
noncomputable def tDGet (td ty : TE) : TE := fun σ H Q => td σ H fun x H1 => ty σ H1 fun y H2 => ∃ a v, x = .ref a ∧ DGet H2 a y (some v) ∧ Q v H2
/-- y in d, y not in d -/
noncomputable def tDIn (ty td : TE) : TE := fun σ H Q => ty σ H fun y H1 => td σ H1 fun x H2 => ∃ a o, x = .ref a ∧ DGet H2 a y o ∧ Q (.bl o.isSome) H2
noncomputable def tDNotIn (ty td : TE) : TE := fun σ H Q => ty σ H fun y H1 => td σ H1 fun x H2 => ∃ a o, x = .ref a ∧ DGet H2 a y o ∧ Q (.bl (!o.isSome)) H2
/-- d[y] = v -/
noncomputable def sDPut (td ty tv : TE) : TS := fun D σ H => tv σ H fun v H1 => td σ H1 fun x H2 => ty σ H2 fun y H3 => ∃ a H4, x = .ref a ∧ DPut H3 a y v H4 ∧ D.nx σ H4
section
variable {X : Cx} {o i e value : Expr} {pos pos' tpos : Pos} {td ty tv : TE}
theorem pe_dget (hu : X.A.units + 1 < cLine) (ho : PE X o td) (hi : PE X i ty) (hs : NoSl i) : PE X (.Subscript o i pos) (tDGet td ty) := by
  intro pins s σ H Q I h
  refine subD_of PySem.F.slot_dict_getitem.lookup hs (thn (ho pins s σ H _ I h) fun u s1 ⟨x, H1, I1, rx, q1⟩ => thn (hi pins s1 σ H1 _ I1 q1) fun iv s2 ⟨y, H2, I2, ry, a, v, ex, g, q2⟩ => ?_)
  subst ex
  obtain rfl : u = Value.ref a := rx
  exact ⟨dict_typeIs I2 g, d_getItem hu I2 g ry fun w' s3 I3 rw' => ⟨v, H2, I3, rw', q2⟩⟩
theorem pc_din (hu : X.A.units + 1 < cLine) (hi : PE X i ty) (ho : PE X o td) : PC X .In i o (tDIn ty td) := by
  intro pins s σ H Q I h
  refine thn (hi pins s σ H _ I h) fun iv s1 ⟨y, H1, I1, ry, q1⟩ => thn (ho pins s1 σ H1 _ I1 q1) fun u s2 ⟨x, H2, I2, rx, a, ov, ex, g, q2⟩ => ?_
  subst ex
  obtain rfl : u = Value.ref a := rx
  exact d_in hu I2 g ry fun s3 I3 => ⟨.bl ov.isSome, H2, I3, rfl, q2⟩
theorem pc_dnotin (hu : X.A.units + 1 < cLine) (hi : PE X i ty) (ho : PE X o td) : PC X .NotIn i o (tDNotIn ty td) := by
  intro pins s σ H Q I h
  refine thn (hi pins s σ H _ I h) fun iv s1 ⟨y, H1, I1, ry, q1⟩ => thn (ho pins s1 σ H1 _ I1 q1) fun u s2 ⟨x, H2, I2, rx, a, ov, ex, g, q2⟩ => ?_
  subst ex
  obtain rfl : u = Value.ref a := rx
  exact d_notIn hu I2 g ry fun s3 I3 => ⟨.bl (!ov.isSome), H2, I3, rfl, q2⟩
theorem ps_dput (hu : X.A.units + 1 < cLine) (ho : PE X o td) (hi : PE X i ty) (hv : PE X value tv) (hs : swapsWith value (some (.Subscript o i pos')) pos.line X.env = pure false) :
    PS X (.Assign [.Subscript o i pos'] value pos) (sDPut td ty tv) := by
  intro pins s σ H D I h
  refine wpAny_Assign_Subscript (thn (hv pins s σ H _ I h) fun r s1 ⟨v, H1, I1, rv, q1⟩ => thn (ho pins s1 σ H1 _ I1 q1) fun u s2 ⟨x, H2, I2, rx, q2⟩ => thn (hi pins s2 σ H2 _ I2 q2) fun iv s3 ⟨y, H3, I3, ry, a, H4, ex, g, q3⟩ => ?_) hs
  subst ex
  obtain rfl : u = Value.ref a := rx
  exact d_setItem hu I3 g ry rv fun s4 I4 => ⟨σ, H4, I4, q3⟩
end


/-! ### displays -/
theorem dk_empty {P : Program} {w : World} {H : Hp} (h : Heap) (hb : sysModules < h.objs.size) : ObjOk P w H (h.push { cls := .type "dict", data := .dict #[] }) h.objs.size (.dK []) :=
  ⟨Nat.zero_le _, beq_eq_false_iff_ne.mpr (Ne.symm (Nat.ne_of_lt hb)), [], .nil, Heap.DictOf.new h⟩
/-- {}, to be a dict of the kind that is wanted -/
noncomputable def tDNewK : TE := fun _ H Q => ∀ p, H p = none → Q (.ref p) (upd H p (.dK []))
section
variable {X : Cx} {pos : Pos}
theorem pe_dnewK : PE X (.Dict [] [] pos) tDNewK := fun pins s σ H Q I h =>
  wpAny_Dict_empty ⟨.ref s.heap.objs.size, _, I.laid (a := s.heap.objs.size) (o := .dK []) (t' := s.toks) (fun _ _ q => Heap.get?_push_of_some _ q) (Nat.le_refl _) (dk_empty s.heap I.big), rfl, h _ (I.hok.fresh (Nat.le_refl _))⟩
end

/-! ### methods -/
structure M2 (X : Cx) (o : Expr) (m : Str) (apos : Pos) (e f : Expr) (cpos : Pos) : Prop where
  base : attributeBase o m X.env (eval o X.env) = eval o X.env
  few : ((backTo cpos (starEach [e, f] X.env)).all (fun x => !x.1) && (backToKw cpos (keywordEach [] X.env)).all (fun x => x.1.isSome)
    && decide (([e, f] : List Expr).length + ([] : List Keyword).length + (if ([] : List Keyword).isEmpty then 0 else 1) < 30)) = true
  line : (apos.endLine == cpos.line) = true
  trees : backTo cpos (starEach [e, f] X.env) = [(false, eval e X.env), (false, eval f X.env)]

/-- a is a dict, whatever its keys -/
noncomputable def IsD (H : Hp) (a : Addr) : Prop := (∃ kvs, Rd H a (.dK kvs)) ∨ ∃ kvs, Rd H a (.dT kvs)
theorem isD_at {X : Cx} {pins : List (Addr × Obj)} {σ : St} {H : Hp} {s : Shared} {a : Addr} (I : Inv X pins σ H s) (d : IsD H a) :
    s.TypeIs (.ref a) "dict" ∧ (∀ b, Value.ref a = .ref b → ∃ ob, s.heap.get? b = some ob ∧ ob.dict = none) ∧ (a == sysModules) = false := by
  rcases d with ⟨kvs, e⟩ | ⟨kvs, e⟩
  · obtain ⟨_, hd, vs, _, dd⟩ := dk_rd I.hok e
    refine ⟨dd.typeIs, fun b q => ?_, hd⟩
    cases q
    obtain ⟨ob, _, _, h1, h2, _⟩ := dd
    exact ⟨ob, h1, h2.2.1⟩
  · obtain ⟨_, hd, xs, _, dd⟩ := dt_rd I.hok e
    refine ⟨dd.typeIs, fun b q => ?_, hd⟩
    cases q
    obtain ⟨ob, _, _, h1, h2, _⟩ := dd
    exact ⟨ob, h1, h2.2.1⟩

section
variable {X : Cx} {pins : List (Addr × Obj)} {σ : St} {H : Hp} {s : Shared} {a : Addr} {y d : V} {u r : Value} {o : Option V} {A : Around} {E : Value → Shared → Prop}
/-- d.get(y, x) -/
theorem d_get2 {Q : Value → Shared → Prop} (hu : A.units + 1 < cLine) (I : Inv X pins σ H s) (g : DGet H a y o) (ry : RelV y u) (rd : RelV d r) (h : ∀ w' s', Inv X pins σ H s' → RelV (o.getD d) w' → Q w' s') :
    wpAny (model X.prog X.w) A (call (.builtin "dict.get") [.ref a, u, r]) Q E s := by
  rcases g with ⟨kvs, k, e, ey, l⟩ | ⟨kvs, k, b, e, ey, eb, l⟩
  · subst ey
    obtain ⟨z, hd, vs, rel, dd⟩ := dk_rd I.hok e
    refine call_meetsIn PySem.F.slot_dict_get dd.typeIs PySem.F.entry_dict_get (PySem.F.args_dict_get_3 _ _ _) (meets_dict_get_default (mixKind X.prog X.w) a (kV_is ry) hd r) ⟨_, dd.mapOf, h _ _ (I.tok _) ?_⟩
    rw [l]
    exact (rel.val k).getD rd
  · subst ey
    cases (show u = Value.ref b from ry)
    obtain ⟨z, hd, xs, rel, dd⟩ := dt_rd I.hok e
    refine call_meetsIn PySem.F.slot_dict_get dd.typeIs PySem.F.entry_dict_get (PySem.F.args_dict_get_3 _ _ _) (meetsH_dict_get_default (tupleKind (mixKind X.prog X.w)) a b hd r) ⟨tupleKind_room_in1 hu, k, xs, key_of I.hok eb, dd, h _ _ (I.tok _) ?_⟩
    rw [l]
    exact (rel.val k).getD rd
end

noncomputable def tDGet2 (td ty tx : TE) : TE := fun σ H Q => td σ H fun x H1 => ∃ a, x = .ref a ∧ IsD H1 a ∧ ty σ H1 fun y H2 => tx σ H2 fun z H3 => ∃ o, DGet H3 a y o ∧ Q (o.getD z) H3
section
variable {X : Cx} {o e f : Expr} {apos cpos : Pos} {td ty tx : TE}
theorem pe_dget2 (hu : X.A.units + 1 < cLine) (ho : PE X o td) (he : PE X e ty) (hf : PE X f tx) (m : M2 X o "get" apos e f cpos) : PE X (.Call (.Attribute o "get" apos) [e, f] [] cpos) (tDGet2 td ty tx) := by
  intro pins s σ H Q I h
  refine wpAny_Call_method m.base m.few m.line PySem.F.plainAttrs_dict PySem.F.slot_dict_get PySem.F.type_dict_get (thn (ho pins s σ H _ I h) fun u s1 ⟨x, H1, I1, rx, a, ex, d, q1⟩ => ?_)
  subst ex
  obtain rfl : u = Value.ref a := rx
  obtain ⟨t1, t2, _⟩ := isD_at I1 d
  refine ⟨t1, t2, ?_⟩
  rw [m.trees]
  refine Calls.callWith_builtin rfl (Calls.evalArgs_plain (Calls.spliced_cons (thn (he pins s1 σ H1 _ I1 q1) fun iv s2 ⟨y, H2, I2, ry, q2⟩ =>
    Calls.spliced_cons (thn (hf pins s2 σ H2 _ I2 q2) fun fv s3 ⟨z, H3, I3, rz, ov, g, q3⟩ => Calls.spliced_nil ?_))))
  exact d_get2 hu I3 g ry rz fun w' s4 I4 rw' => ⟨_, H3, I4, rw', q3⟩
end

/-! ### dict(d): a copy -/
section
variable {X : Cx} {pins : List (Addr × Obj)} {σ : St} {H : Hp} {s : Shared} {a : Addr} {kvs : List (Key × V)} {A : Around} {E : Value → Shared → Prop}
end


section
variable {X : Cx} {pins : List (Addr × Obj)} {σ : St} {H : Hp} {s : Shared} {a : Addr} {y : V} {u : Value} {A : Around} {E : Value → Shared → Prop}
end
end L2

namespace L2
open PySem PySem.Spec PyProof.Rows
section
variable {X : Cx}
end
/-! ### a dict's pairs: keys that differ -/
section
variable {κ : Type} [DecidableEq κ]
theorem valV_not {kvs : List (κ × V)} {k : κ} (h : valV kvs k = none) : ¬ k ∈ kvs.map (·.1) := by
  intro m
  obtain ⟨p, hp, e⟩ := List.mem_map.mp m
  have q : (kvs.any fun kv => decide (kv.1 = k)) = true := List.any_eq_true.mpr ⟨p, hp, decide_eq_true e⟩
  rw [valV_any, h] at q
  exact absurd q (by simp)
theorem valV_in {kvs : List (κ × V)} {k : κ} {v : V} (h : valV kvs k = some v) : k ∈ kvs.map (·.1) := by
  have q : (kvs.any fun kv => decide (kv.1 = k)) = true := by
    rw [valV_any, h]
    all_goals rfl
  obtain ⟨p, hp, e⟩ := List.any_eq_true.mp q
  exact List.mem_map.mpr ⟨p, hp, of_decide_eq_true e⟩
theorem nd_snoc : ∀ {l : List κ} {k : κ}, l.Nodup → ¬ k ∈ l → (l ++ [k]).Nodup
  | [], k, _, _ => by simp
  | a :: r, k, h, hk => by
    obtain ⟨h1, h2⟩ := List.nodup_cons.mp h
    show (a :: (r ++ [k])).Nodup
    refine List.nodup_cons.mpr ⟨fun m => ?_, nd_snoc h2 fun m => hk (List.mem_cons.mpr (Or.inr m))⟩
    rcases List.mem_append.mp m with q | q
    · exact h1 q
    · exact hk (List.mem_cons.mpr (Or.inl (List.mem_singleton.mp q).symm))
end
end L2

namespace Att
open PySem PySem.W PySem.Calls PyProof.Rows

/-! ### the script -/
theorem ints_of_wellAll {P : Params} {h : Heap} : ∀ (ns : List Int) (vs : List Value), WellAll P h vs (ns.map WData.int) → IntsAre vs ns := by
  intro ns
  induction ns with
  | nil =>
    intro vs w
    rw [List.map_nil] at w
    cases w
    exact .nil
  | cons n ns ih =>
    intro vs w
    rw [List.map_cons] at w
    cases w with
    | cons a b =>
      cases a
      exact .cons _ _ (ih _ b)

theorem script_of {l : OpenLaw} {n : Nat} (hn : l.most = some n) {P : Params} {h : Heap} {args : List WData} {vals : List Value}
    (hpre : l.row.toRowW.claim.pre args = true) (hwl : WellAll P h vals args) :
    ∃ a vs ns, vals = [Value.ref a] ∧ args = [WData.list (ns.map WData.int)] ∧ h.get? a = some { cls := .type "list", data := .seq vs.toArray } ∧ IntsAre vs ns ∧ ns.length ≤ n := by
  have hsh : WShape.hasAll [] args [.list .int] = true := (pre_splitW hpre).1
  have hc : l.pre.holds [] { args := args } = true := (pre_splitW hpre).2
  obtain ⟨d, r, rfl, h1, h2⟩ := hasAllW_cons hsh
  obtain rfl := hasAllW_nil h2
  obtain ⟨xs, rfl, h3⟩ := hasW_list h1
  obtain ⟨ns, rfl⟩ := items_int h3
  have hlen : ns.length ≤ n := by
    unfold OpenLaw.pre at hc
    have h4 : (WTm.not (.lt (.lit (.int (n : Int))) (.len (.arg 0)))).holds [] { args := [.list (ns.map .int)] } = true := by
      have h4 := (holds_andW hc).1
      rw [hn] at h4
      exact h4
    have h5 := condW_of h4 (w_not (w_lt w_lit (w_len_list (w_arg rfl))))
    rw [List.length_map] at h5
    refine Nat.le_of_not_lt fun q => ?_
    have q' : (n : Int) < ((ns.length : Nat) : Int) := by omega
    first
      | (rw [decide_eq_true q'] at h5; exact absurd h5 (by decide))
      | (simp at h5; omega)
  cases hwl with
  | cons w1 w2 =>
    cases w2
    cases w1 with
    | list ho hall => exact ⟨_, _, ns, rfl, rfl, ho, ints_of_wellAll ns _ hall, hlen⟩

theorem post_true (l : OpenLaw) (args : List WData) : l.row.toRowW.claim.post args (.bool true) args = true :=
  postW_of (r := l.row.toRowW) (X := (true == true))
    (show WShape.has [] (.bool true) .bool = true by first | rfl | decide | simp [WShape.has, WShape.arms, WShape.armsAll])
    (show (WTm.eq .res (.lit (.bool true))).value [] { args := args, res := some (.bool true), after := args } = some (.bool (true == true)) from w_eq_bool (w_res rfl) w_lit) rfl

/-! ### the attachment: holds_open's last premise (the goal 'hc' behind k_head) from a wpAny of the law's body -/
/-! ### rules over ANY heap (no ledger) from facts about the written part K: the library's own take a ledger (News) for what they write -/
section
variable {prog : Program} {w : World} {A : Around} {E : Value → Shared → Prop} {s : Shared} {K : Frag}

/-! the whole heap as the ledger: makes every rule that writes through a ledger a rule over any heap -/
end
end Att

namespace L2
open PySem PySem.Spec PyProof.Rows

theorem vals_ints : ∀ {vs : List Value} {ns : List Int}, IntsAre vs ns → Vals (ns.map V.int) vs
  | _, _, .nil => .nil
  | _, _, .cons n t h => .cons ⟨t, rfl⟩ (vals_ints h)

/-- nothing is tracked but the script, known to the object (or it is an object of the module) -/
noncomputable def Only (H : Hp) : Prop := ∀ b, H b = none ∨ ∃ o xs, H b = some (.frz o (.lst xs))

/-- THE HEAD: the law's promise, at the heap behind the top. F, the promise of the law's def, may use that base is part of the heap (so K.In base, base.Ns mainGlobals mg stand in Mod) -/
theorem law_call {P : Program} {w : World} {K : PySem.W.Frag} {mg mb : Str → Option Value} {CX : CXT} {k : Nat} {fa a : Addr} {fd : FuncData} {x : Str} {sp : Sp} {s₁ : Shared} {vs : List Value} {ns : List Int}
    (KX : K.In s₁.heap) (hns : s₁.heap.Ns mainGlobals mg) (hb : s₁.heap.Ns builtinsNs mb) (hbb : ∀ x : Str, x ≠ "__name__" → mb x = bootBuiltins x) (hlim : s₁.heap.NoLimit) (hg : s₁.gens = #[])
    (ha : s₁.heap.get? a = some { cls := .type "list", data := .seq vs.toArray }) (hi : IntsAre vs ns) (hl : ns.length ≤ sizeLine) (hr : Room k callerA)
    (F : ∀ base : Heap, K.In base → base.Ns mainGlobals mg → FnOk P w K mg base CX k fa fd [x] sp) (hbind : ∀ (s : Shared) (u : Value), BindsTo s fd ⟨[u], []⟩ [(x, u)])
    (hsp : ∀ H : Hp, Only H → SqL K H a (ns.map V.int) → sp [.ref a] H (fun v _ => v = .bl true) fun _ _ _ => False)
    (hCX : ∀ H e s', CX [] H s₁ (fun _ _ _ => False) e s' → False) :
    codeAny (model P w) callerA (.call (.ref fa) ⟨[.ref a], []⟩) (fun r s' => r = .ok (.ret (.bool true)) ∧ OldK s₁.heap s'.heap ∧ s'.os = s₁.os ∧ AllBare s'.gens) s₁ := by
  have rv := vals_ints hi
  have lenV := hi.length
  -- from an abstract heap in which nothing but the script may be tracked
  have core : ∀ H : Hp, Only H → SqL K H a (ns.map V.int) → HOk P w H s₁.heap → (∀ b, H b ≠ none → b = a) → (H a ≠ none → K.lookup a = none) →
      codeAny (model P w) callerA (.call (.ref fa) ⟨[.ref a], []⟩) (fun r s' => r = .ok (.ret (.bool true)) ∧ OldK s₁.heap s'.heap ∧ s'.os = s₁.os ∧ AllBare s'.gens) s₁ := by
    intro H hO hS hok hA hK
    have base_of : ∀ {b : Addr} {o : Obj}, s₁.heap.get? b = some o → H b = none → (hidT s₁.heap H).get? b = some o := fun e n => hidT_get e n
    have noA : ∀ {b : Addr} {o : Obj} {es : Array DictEntry} {ep : Nat}, s₁.heap.get? b = some o → o.data = .dict es ep → H b = none := fun {b o es ep} e d => by
      cases q : H b with
      | none => rfl
      | some u =>
        have e' : b = a := hA b (by rw [q]; simp)
        subst e'
        rw [ha] at e; cases e
        have d' : Data.seq vs.toArray _ = Data.dict es ep := d
        cases d'
    have nsK : ∀ {b : Addr} {m : Str → Option Value}, s₁.heap.Ns b m → (hidT s₁.heap H).Ns b m := fun {b m} ⟨o, es, ep, e, d, r⟩ => ⟨o, es, ep, base_of e (noA e d), d, r⟩
    have hKb : K.In (hidT s₁.heap H) := fun b o e => base_of (KX b o e) (by
      cases q : H b with
      | none => rfl
      | some u =>
        have e' : b = a := hA b (by rw [q]; simp)
        subst e'
        rw [hK (by rw [q]; simp)] at e; cases e)
    have hM : Mod K mg (hidT s₁.heap H) := ⟨hKb, nsK hns, ⟨mb, nsK hb, hbb⟩, let ⟨mc, h1, h2⟩ := hlim; ⟨mc, nsK h1, h2⟩⟩
    have e0 : Env0 P w K mg (hidT s₁.heap H) callerA [] s₁ H := ⟨rfl, hM, fun b o e => of_hidT e, Nat.le_of_eq (hidT_size _ _), trivial, fun b hb => absurd (show b ∈ ([] : List Addr) from hb) (by simp), hok, .of_eq hg⟩
    refine codeAny_mono ((F _ hKb (nsK hns)).run callerA [] s₁ H ⟨[.ref a], []⟩ [.ref a] [.ref a] _ _ hr e0 (hbind s₁ (.ref a)) (.cons rfl .nil) (hsp H hO hS)) fun r s' h => ?_
    cases r with
    | error e => exact (hCX H e s' h).elim
    | ok fl =>
      cases fl with
      | next => exact False.elim h
      | brk => exact False.elim h
      | cont => exact False.elim h
      | ret u =>
        obtain ⟨v, H', os, bare, un, hok', r', q⟩ := h
        have q' : v = .bl true := q
        subst q'
        obtain rfl : u = Value.bool true := r'
        refine ⟨rfl, OldK.of_keep fun b o e => ?_, os, bare⟩
        cases q : H b with
        | none => exact un.keep b o e q (by intro z; exact absurd (show b ∈ ([] : List Addr) from z) (by simp)) (by simp)
        | some u =>
          rcases hO b with z | ⟨ob, xs, z⟩
          · rw [q] at z; cases z
          · have z2 := un.frzs b ob _ z
            obtain ⟨e1, _⟩ := hok b _ z
            obtain ⟨e2, _⟩ := hok' b _ z2
            rw [e] at e1; cases e1
            exact e2
  cases hk : K.lookup a with
  | some o =>
    -- the script is one of the module's own objects
    have e := KX a o hk
    rw [ha] at e
    cases e
    refine core (fun _ => none) (fun _ => .inl rfl) (.inr ⟨_, vs.toArray, _, hk, rfl, rfl, rfl, by rw [List.size_toArray, lenV]; exact hl, by simpa using rv⟩) (fun b u z => by have z' : (none : Option HO) = some u := z; cases z') (fun b z => absurd rfl z) fun z => absurd rfl z
  | none =>
    refine core (fun b => if b = a then some (.frz { cls := .type "list", data := .seq vs.toArray } (.lst (ns.map V.int))) else none) (fun b => ?_) (.inl (.inr ⟨{ cls := .type "list", data := .seq vs.toArray }, if_pos rfl⟩)) (fun b u z => ?_) (fun b z => ?_) fun _ => hk
    · by_cases hb : b = a
      · exact .inr ⟨_, _, if_pos hb⟩
      · exact .inl (if_neg hb)
    · by_cases hb : b = a
      · have z' := (if_pos hb).symm.trans z
        cases z'
        subst hb
        exact ⟨ha, by rw [List.length_map]; exact hl, vs, _, rv, ha⟩
      · have z' := (if_neg hb).symm.trans z
        cases z'
    · by_cases hb : b = a
      · exact hb
      · exact absurd (if_neg hb) z
end L2

namespace L2
open PySem PySem.Spec PyProof.Rows

noncomputable abbrev KOf {K : PySem.W.Frag} {h : Heap} (_ : K.In h) : PySem.W.Frag := K

end L2

/- THE LAST THEOREM (shape; LID, My.* are yours):
   My.Adr: a structure of the addresses that your layer names (classes, functions); My.Txt K t: a structure (Prop) of the equations over K;
   My.txt_mk : {K} {implicit addresses ..} (e1 : nsIn K mainGlobals "law" = some (some (.ref f))) (e2 : K.lookup f = some ⟨oc, od, .func (fnOf "law" "law" params body scope dV kV doc pm an cdv ct), sl⟩) (e3 : codeIn K cdv "law" = true) .. : ∃ t, My.Txt K t

set_option maxRecDepth 100000 in
set_option maxHeartbeats 0 in
(the tactic k_is has no namespace: write k_is) -/

/-! SHORT WORDS over the layer: a def of the text, its body, what a loop and a test want. -/
namespace L2
open PySem PySem.Spec PyProof.Rows

/-! ### the text by places -/
noncomputable def defArgs (s : Stmt) : Arguments := match s with
  | .FunctionDef _ a _ _ _ _ _ _ _ _ => a
  | _ => { posonlyargs := [], args := [], vararg := none, kwonlyargs := [], kw_defaults := [], kwarg := none, defaults := [] }
noncomputable def defBody (s : Stmt) : List Stmt := match s with
  | .FunctionDef _ _ b _ _ _ _ _ _ _ => b
  | _ => []
noncomputable def defScope (s : Stmt) : Scope := match s with
  | .FunctionDef _ _ _ _ _ _ sc _ _ _ => sc
  | _ => { kind := .function, names := [], isGenerator := false, isCoroutine := false }

/-! ### no exception leaves a def -/
noncomputable abbrev CX0 : CXT := fun _ _ _ _ _ _ => False
noncomputable abbrev E0 : XK := fun _ _ _ => False
theorem pass0 {X : Cx} : Passes CX0 X E0 := fun _ _ _ _ _ _ _ h => h.elim

/-! ### a def (or method) of the text as it stands behind the top -/
structure Fun (K : PySem.W.Frag) (x qual : Str) (st : Stmt) (f : Addr) (fd : FuncData) : Prop where
  ex : ∃ (oc : Value) (od : Option Addr) (kV doc pm : Value) (an : Option Addr) (cdv ct : Value) (osl : Array (Option Value)),
    fd = PySem.W.fnOf x qual (defArgs st) (defBody st) (defScope st) .none kV doc pm an cdv ct ∧ K.lookup f = some ⟨oc, od, .func fd, osl⟩ ∧ PySem.W.codeIn K cdv qual = true
  kp : PySem.W.keepIn K (.ref f) = true
section
variable {P : Program} {w : World} {K : PySem.W.Frag} {mg : Str → Option Value} {base : Heap}
/-- THE RULE for a def: its body as a term of rules, and the reading of that term -/
theorem Fun.ok {x qual : Str} {st : Stmt} {f : Addr} {fd : FuncData} {N ps : List Str} {k : Nat} {sp : Sp} (F : Fun K x qual st f fd) (S : FnScope N ps (defScope st)) (len : ∀ vs H Q E, sp vs H Q E → vs.length = ps.length)
    (hbody : ∀ (cdv : Value) (A : Around) (outer : List Env) (s : Shared) (H : Hp) (vs : List V) (Q : VK) (E : XK), Room k (A.deeper (envOfC qual (defScope st) s.heap.objs.size f cdv)) → sp vs H Q E →
      ∃ t, PSs (cxOf CX0 P w K mg base N qual (defScope st) f cdv A outer s H E).nox (defBody st) t ∧ t { nx := fun _ H' => Q .non H', rt := Q } (start N vs) H) : FnOk P w K mg base CX0 (k + 1) f fd ps sp := by
  obtain ⟨oc, od, kV, doc, pm, an, cdv, ct, osl, rfl, lk, hcd⟩ := F.ex
  refine fn_of lk hcd S len fun A outer s H vs Q E hr hsp => ?_
  obtain ⟨t, h, q⟩ := hbody cdv A outer s H vs Q E hr hsp
  exact ⟨t, h.nox, q⟩
/-- how its arguments bind (no defaults): h is «fun _ _ _ _ _ _ us hl => match us, hl with | [_, _], _ => rfl», one _ a parameter -/
theorem Fun.binds {x qual : Str} {st : Stmt} {f : Addr} {fd : FuncData} {ps : List Str} (F : Fun K x qual st f fd)
    (h : ∀ (kV doc pm : Value) (an : Option Addr) (cdv ct : Value) (us : List Value), us.length = ps.length → bindArgs (PySem.W.fnOf x qual (defArgs st) (defBody st) (defScope st) .none kV doc pm an cdv ct) ⟨us, []⟩ = pure (ps.zip us)) : Binds K fd ps [] := by
  obtain ⟨oc, od, kV, doc, pm, an, cdv, ct, osl, rfl, lk, hcd⟩ := F.ex
  exact .all (h kV doc pm an cdv ct)
theorem fun_mk {x qual : Str} {st : Stmt} {f : Addr} {oc : Value} {od an : Option Addr} {osl : Array (Option Value)} {kV doc pm cdv ct : Value} (l : K.lookup f = some ⟨oc, od, .func (PySem.W.fnOf x qual (defArgs st) (defBody st) (defScope st) .none kV doc pm an cdv ct), osl⟩)
    (c : PySem.W.codeIn K cdv qual = true) (k : PySem.W.keepIn K (.ref f) = true) : Fun K x qual st f (PySem.W.fnOf x qual (defArgs st) (defBody st) (defScope st) .none kV doc pm an cdv ct) := ⟨⟨oc, od, kV, doc, pm, an, cdv, ct, osl, rfl, l, c⟩, k⟩
end
theorem hu_of {A : Around} {k : Nat} (hr : Room k A) : A.units + 1 < cLine := Nat.lt_of_le_of_lt (Nat.add_le_add_left (by decide : 1 ≤ 64) _) hr.units
theorem small1000 {n : Nat} (h : n ≤ 1000) : n < sizeLine := Nat.lt_of_le_of_lt h (by decide)

/-! ### expressions in short: the name that stands in the i-th slot -/
section
variable {X : Cx}
theorem pv (i : Nat) {x : Str} {pos : Pos} (hN : X.N[i]? = some x := by rfl) (hv : Vis X.env.scope x := by first | exact Or.inl rfl | exact Or.inr (Or.inl rfl) | exact Or.inr (Or.inr rfl)) (hd : (x == ("__debug__" : Str)) = false := by decide)
    (hcd : (x == ("__classdict__" : Str)) = false := by decide) : PE X (.Name x pos) (tVar i) := pe_var hN hv hd hcd
end

/-! ### tests -/
theorem iteF {A B : Prop} (h : B) : if false = true then A else B := by
  rw [if_neg Bool.false_ne_true]
  exact h
theorem iteT {A B : Prop} (h : A) : if true = true then A else B := by
  rw [if_pos rfl]
  exact h
theorem ite2 {c A B : Prop} [Decidable c] (h1 : c → A) (h2 : ¬ c → B) : if c then A else B := by
  by_cases h : c
  · rw [if_pos h]
    exact h1 h
  · rw [if_neg h]
    exact h2 h
theorem iteNS {c A B : Prop} [Decidable c] (hc : c) (h : B) : if (!decide c) = true then A else B := by
  rw [decide_eq_true hc]
  exact iteF h

/-! ### heaps -/
/-- all that was tracked is as it was -/
noncomputable def Same (H H' : Hp) : Prop := ∀ b o, H b = some o → H' b = some o
theorem Same.refl (H : Hp) : Same H H := fun _ _ h => h
theorem Same.trans {H H1 H2 : Hp} (a : Same H H1) (b : Same H1 H2) : Same H H2 := fun c o h => b c o (a c o h)
theorem Same.free {H H' : Hp} (e : Same H H') {l : Addr} (h : H' l = Option.none) : H l = Option.none := by
  cases q : H l with
  | none => rfl
  | some o =>
    rw [e l o q] at h
    cases h
end L2

/-! The law's own table: what the drawn rows are, in plain Lean. -/
namespace Fb
open PySem

/-- a row of a table: sign, rank, side -/
noncomputable abbrev Row := Str × Int × Str

noncomputable def drawI (n p m : Int) : Int := n * 48271 % p % m
theorem drawI_nonneg {n p m : Int} (hm : 0 < m) : 0 ≤ drawI n p m := Int.emod_nonneg _ (by omega)
theorem drawI_lt {n p m : Int} (hm : 0 < m) : drawI n p m < m := Int.emod_lt_of_pos _ hm

noncomputable def scales (seed : Int) : List Int := [1, 10 ^ 12, 1, 1 + seed % 10 ^ 40]
noncomputable def scaleI (seed : Int) : Int := (scales seed).getD (seed / 10 % 4).toNat 0
noncomputable def sideMenu : List Str := ["left", "right", "none"]
noncomputable def sideI (seed : Int) (k : Nat) : Str := sideMenu.getD (drawI (seed + 101 * k) 1009 3).toNat ""
noncomputable def sidesL (seed : Int) (n : Nat) : List Str := (List.range n).map (sideI seed)
noncomputable def rankMenu : List Int := [-1, 0, 1, 2, 3, 5, 9]
noncomputable def signMenu : List Str := ["-", "+", "*", "^", "<", "/", "&", ">", "=", "|"]
noncomputable def whichI (seed : Int) (k : Nat) : Int := drawI ((seed + 31 * k) ^ 2) 1031 7
noncomputable def spotI (seed : Int) (k : Nat) : Int := drawI (seed + 17 * k) 1033 (k + 1)
noncomputable def signI (seed : Int) (k : Nat) : Str := signMenu.getD ((k + seed / 20) % 10).toNat ""
noncomputable def rowI (seed : Int) (k : Nat) : Row := (signI seed k, rankMenu.getD (whichI seed k).toNat 0 * scaleI seed, (sidesL seed 7).getD (whichI seed k).toNat "")
noncomputable def putAt {α : Type} (n : Nat) (x : α) (xs : List α) : List α := xs.take n ++ x :: xs.drop n
noncomputable def rankedL (seed : Int) : Nat → List Row
  | 0 => []
  | k + 1 => putAt (spotI seed k).toNat (rowI seed k) (rankedL seed k)
noncomputable def countI (seed : Int) : Int := 1 + seed % 10
noncomputable def ranked (seed : Int) : List Row := rankedL seed (countI seed).toNat

theorem putAt_perm {α : Type} (n : Nat) (x : α) (xs : List α) : (putAt n x xs).Perm (xs ++ [x]) := by
  unfold putAt
  have h1 : (List.take n xs ++ x :: List.drop n xs).Perm (List.take n xs ++ (List.drop n xs ++ [x])) :=
    List.Perm.append_left _ (List.perm_append_singleton x (List.drop n xs)).symm
  have h2 : List.take n xs ++ (List.drop n xs ++ [x]) = xs ++ [x] := by rw [← List.append_assoc, List.take_append_drop]
  rw [h2] at h1
  exact h1
theorem ranked_perm (seed : Int) : ∀ n, (rankedL seed n).Perm ((List.range n).map (rowI seed))
  | 0 => .refl _
  | n + 1 => by
    show (putAt _ (rowI seed n) (rankedL seed n)).Perm _
    refine (putAt_perm _ _ _).trans ?_
    rw [List.range_succ, List.map_append]
    exact List.Perm.append_right _ (ranked_perm seed n)
theorem rankedL_length (seed : Int) (n : Nat) : (rankedL seed n).length = n := by
  rw [(ranked_perm seed n).length_eq, List.length_map, List.length_range]
theorem rankedL_mem {seed : Int} {n : Nat} {r : Row} (h : r ∈ rankedL seed n) : ∃ k, k < n ∧ r = rowI seed k := by
  have h' := (ranked_perm seed n).mem_iff.mp h
  obtain ⟨k, hk, e⟩ := List.mem_map.mp h'
  exact ⟨k, List.mem_range.mp hk, e.symm⟩
theorem countI_pos (seed : Int) : 1 ≤ countI seed ∧ countI seed ≤ 10 := by unfold countI; omega
theorem ranked_length (seed : Int) : (ranked seed).length = (countI seed).toNat := rankedL_length _ _
theorem ranked_len10 (seed : Int) : 1 ≤ (ranked seed).length ∧ (ranked seed).length ≤ 10 := by
  rw [ranked_length]; have := countI_pos seed; omega
/-! signs -/
theorem signMenu_nodup : signMenu.Nodup := by decide +kernel
theorem getD_inj {α : Type} {xs : List α} {d : α} (h : xs.Nodup) {i j : Nat} (hi : i < xs.length) (hj : j < xs.length) (e : xs.getD i d = xs.getD j d) : i = j := by
  rw [List.getD_eq_getElem?_getD, List.getD_eq_getElem?_getD, List.getElem?_eq_getElem hi, List.getElem?_eq_getElem hj] at e
  have e' : xs[i] = xs[j] := e
  rcases Nat.lt_trichotomy i j with q | q | q
  · exact absurd e' (List.pairwise_iff_getElem.mp h i j hi hj q)
  · exact q
  · exact absurd e'.symm (List.pairwise_iff_getElem.mp h j i hj hi q)
theorem signI_inj {seed : Int} {i j : Nat} (hi : i < 10) (hj : j < 10) (e : signI seed i = signI seed j) : i = j := by
  have h1 : ((i + seed / 20) % 10).toNat < signMenu.length := by show _ < 10; omega
  have h2 : ((j + seed / 20) % 10).toNat < signMenu.length := by show _ < 10; omega
  have := getD_inj signMenu_nodup h1 h2 e
  omega
theorem getD_mem {α : Type} {xs : List α} {d : α} {i : Nat} (hi : i < xs.length) : xs.getD i d ∈ xs := by
  rw [List.getD_eq_getElem?_getD, List.getElem?_eq_getElem hi]
  exact List.getElem_mem hi
theorem signI_mem (seed : Int) (k : Nat) : signI seed k ∈ signMenu := by
  unfold signI
  exact getD_mem (by show _ < 10; omega)
theorem sideI_mem (seed : Int) (k : Nat) : sideI seed k ∈ sideMenu := by
  unfold sideI
  have h1 := drawI_nonneg (n := seed + 101 * k) (p := 1009) (m := 3) (by omega)
  have h2 := drawI_lt (n := seed + 101 * k) (p := 1009) (m := 3) (by omega)
  exact getD_mem (by show _ < 3; omega)
theorem which_lt (seed : Int) (k : Nat) : 0 ≤ whichI seed k ∧ whichI seed k < 7 := ⟨drawI_nonneg (by omega), drawI_lt (by omega)⟩
theorem sides_getD {seed : Int} {i : Nat} (hi : i < 7) : (sidesL seed 7).getD i "" = sideI seed i := by
  unfold sidesL
  rw [List.getD_eq_getElem?_getD, List.getElem?_map, List.getElem?_range hi]
  rfl
theorem scale_pos (seed : Int) : 0 < scaleI seed := by
  have h1 : 0 ≤ seed / 10 % 4 := Int.emod_nonneg _ (by omega)
  have h2 : seed / 10 % 4 < 4 := Int.emod_lt_of_pos _ (by omega)
  have hm : scaleI seed ∈ scales seed := by unfold scaleI; exact getD_mem (by show _ < 4; omega)
  have h3 : 0 ≤ seed % 10 ^ 40 := Int.emod_nonneg _ (by decide)
  simp only [scales, List.mem_cons, List.not_mem_nil, or_false] at hm
  rcases hm with h | h | h | h <;> omega
theorem rankMenu_nodup : rankMenu.Nodup := by decide
/-- one side for each rank -/
theorem rowI_side {seed : Int} {i j : Nat} (e : (rowI seed i).2.1 = (rowI seed j).2.1) : (rowI seed i).2.2 = (rowI seed j).2.2 := by
  have hs := scale_pos seed
  have e' : rankMenu.getD (whichI seed i).toNat 0 * scaleI seed = rankMenu.getD (whichI seed j).toNat 0 * scaleI seed := e
  have e2 := Int.eq_of_mul_eq_mul_right (by omega) e'
  have w1 := which_lt seed i
  have w2 := which_lt seed j
  have e3 := getD_inj rankMenu_nodup (by show _ < 7; omega) (by show _ < 7; omega) e2
  show (sidesL seed 7).getD (whichI seed i).toNat "" = (sidesL seed 7).getD (whichI seed j).toNat ""
  rw [e3]
theorem rowI_side_mem (seed : Int) (k : Nat) : (rowI seed k).2.2 ∈ sideMenu := by
  have w := which_lt seed k
  show (sidesL seed 7).getD (whichI seed k).toNat "" ∈ sideMenu
  rw [sides_getD (by omega)]
  exact sideI_mem _ _

/-- what a fine table is -/
structure Fine (rs : List Row) : Prop where
  sign : ∀ r ∈ rs, r.1 ∈ signMenu
  side : ∀ r ∈ rs, r.2.2 ∈ sideMenu
  once : (rs.map (·.1)).Nodup
  one : ∀ r ∈ rs, ∀ q ∈ rs, r.2.1 = q.2.1 → r.2.2 = q.2.2
theorem map_nodup {α β : Type} {f : α → β} : ∀ {l : List α}, l.Nodup → (∀ a ∈ l, ∀ b ∈ l, f a = f b → a = b) → (l.map f).Nodup
  | [], _, _ => List.nodup_nil
  | x :: r, h, hi => by
    obtain ⟨h1, h2⟩ := List.nodup_cons.mp h
    refine List.nodup_cons.mpr ⟨fun m => ?_, map_nodup h2 fun a ha b hb => hi a (List.mem_cons_of_mem _ ha) b (List.mem_cons_of_mem _ hb)⟩
    obtain ⟨y, hy, e⟩ := List.mem_map.mp m
    have := hi y (List.mem_cons_of_mem _ hy) x List.mem_cons_self e
    subst this
    exact h1 hy
theorem rankedL_fine (seed : Int) {n : Nat} (hn : n ≤ 10) : Fine (rankedL seed n) where
  sign := fun r hr => by obtain ⟨k, _, rfl⟩ := rankedL_mem hr; exact signI_mem seed k
  side := fun r hr => by obtain ⟨k, _, rfl⟩ := rankedL_mem hr; exact rowI_side_mem seed k
  once := by
    have hp := (ranked_perm seed n).map (fun r : Row => r.1)
    refine hp.nodup_iff.mpr ?_
    rw [List.map_map]
    refine map_nodup List.nodup_range fun a ha b hb e => ?_
    have ha' := List.mem_range.mp ha
    have hb' := List.mem_range.mp hb
    exact signI_inj (seed := seed) (by omega) (by omega) e
  one := fun r hr q hq e => by
    obtain ⟨i, _, rfl⟩ := rankedL_mem hr
    obtain ⟨j, _, rfl⟩ := rankedL_mem hq
    exact rowI_side e
theorem ranked_fine (seed : Int) : Fine (ranked seed) := rankedL_fine seed (by have := countI_pos seed; omega)
end Fb

/-! Rules beside the layer: powers of larger numbers, list.insert, the head with the script's size. -/
namespace Fb
open PySem PySem.Spec PyProof.Rows L2
/-- the names' values (the name stands in two open namespaces) -/
noncomputable abbrev St := L2.St

section
variable {X : Cx}
/-- i ** j where the power's size is bounded -/
noncomputable def CPowB (i j : Int) : Prop := 0 ≤ j ∧ (Builtin.Int.intBits i : Int) * j ≤ 2 ^ 27
theorem op_powB : OpR X (binaryOp .Pow) (rI CPowB fun i j => .int (i ^ j.toNat)) := opI fun _ _ _ _ _ _ _ hc q => pow_int hc.1 hc.2 q

noncomputable def rInsert : V → List V → Hp → VK → Prop := fun x vs H Q => ∃ l xs i y, x = .ref l ∧ vs = [.int i, y] ∧ H l = some (.lst xs) ∧ 0 ≤ i ∧ i ≤ xs.length ∧ xs.length < sizeLine ∧ Q .non (upd H l (.lst (putAt i.toNat y xs)))
theorem Vals.putAt {x : V} {u : Value} (r : RelV x u) {xs : List V} {us : List Value} (n : Nat) (h : Vals xs us) : Vals (putAt n x xs) (putAt n u us) :=
  (h.take n).append (.cons r (h.drop n))
theorem putAt_len {α : Type} (n : Nat) (x : α) (xs : List α) : (putAt n x xs).length = xs.length + 1 := by
  rw [(putAt_perm n x xs).length_eq, List.length_append]; rfl
theorem mt_insert : MtM X "list.insert" rInsert := by
  intro pins s σ H x vs v us Q I rx rv h
  obtain ⟨l, xs, i, y, rfl, rfl, hH, h0, h1, hz, q⟩ := h
  cases rx
  obtain ⟨u, u2, rfl, ru, ru2⟩ := rv.two
  obtain ⟨t, rfl⟩ := ru
  obtain ⟨z, its, n, r, hl, e⟩ := I.lstM hH
  have hfit : ¬ (!Builtin.List.listFitsIndex i) = true := by
    have hb : i < 2 ^ 63 := Int.lt_of_le_of_lt h1 (by have := line63; omega)
    rw [fitsIndex_both (by omega) hb]
    decide
  refine call_meets F.slot_list_insert ⟨_, e, rfl⟩ F.entry_list_insert (F.args_list_insert_3 _ _ _) (AutoListH.list_insert_list_int_val_1 l its.toArray n i t u2 hfit (by rw [List.size_toArray]; omega)) ⟨e, ?_⟩
  refine ⟨.non, _, I.lset (its' := Fb.putAt i.toNat u2 its) hH e ?_ (Vals.putAt ru2 _ r) ?_, rfl, q⟩
  · have hk : (if i < 0 then (i + ((its.toArray.size : Nat) : Int)).toNat else min i.toNat its.toArray.size) = i.toNat := by
      rw [if_neg (by omega), List.size_toArray]
      omega
    show (its.toArray.extract 0 (if i < 0 then (i + ((its.toArray.size : Nat) : Int)).toNat else min i.toNat its.toArray.size)).push u2 ++ its.toArray.extract (if i < 0 then (i + ((its.toArray.size : Nat) : Int)).toNat else min i.toNat its.toArray.size) = _
    rw [hk]
    unfold Fb.putAt
    simp
    exact List.take_of_length_le (by rw [List.length_drop]; exact Nat.le_refl _)
  · rw [putAt_len]; omega
end

/-! ### items of written lists -/
theorem atI_getD {α β : Type} (f : α → β) (xs : List α) (d : α) {i : Int} (h0 : 0 ≤ i) (h1 : i < xs.length) : atI (xs.map f) i = some (f (xs.getD i.toNat d)) := by
  have hi : i.toNat < xs.length := by omega
  have e : atI (xs.map f) ((i.toNat : Nat) : Int) = some (f xs[i.toNat]) := atI_nat (by rw [List.getElem?_map, List.getElem?_eq_getElem hi]; rfl)
  have e2 : ((i.toNat : Nat) : Int) = i := by omega
  rw [e2] at e
  rw [e, List.getD_eq_getElem?_getD, List.getElem?_eq_getElem hi]
  rfl
end Fb

/-! Errors of the program's own: raised, passed on by a def, taken by a try. -/
namespace Fb
open PySem PySem.Spec PySem.Calls PyProof.Rows L2

theorem ObjOk.there {P : Program} {w : World} {H : Hp} {h : Heap} {a : Addr} {o : HO} (x : ObjOk P w H h a o) : ∃ u, h.get? a = some u := by
  cases o with
  | lst xs => obtain ⟨_, _, _, _, e⟩ := x; exact ⟨_, e⟩
  | tup xs => obtain ⟨_, _, _, o, e, _⟩ := x; exact ⟨_, e⟩
  | dK kvs => obtain ⟨_, _, _, _, o, _, _, e, _⟩ := x; exact ⟨_, e⟩
  | dT kvs => obtain ⟨_, _, _, _, o, _, _, e, _⟩ := x; exact ⟨_, e⟩
  | set S n => obtain ⟨o, _, _, _, e, _⟩ := x; exact ⟨_, e⟩
  | ins C dx fs => obtain ⟨_, _, _, e, _⟩ := x; exact ⟨_, e⟩
  | own y => obtain ⟨_, e⟩ := x; exact ⟨_, e⟩
  | xd fs => obtain ⟨_, ⟨_, _, _, e, _⟩, _⟩ := x; exact ⟨_, e⟩
  | rng lo hi => obtain ⟨_, _, _, e⟩ := x; exact ⟨_, e⟩
  | frz ob u => obtain ⟨e, _⟩ := x; exact ⟨_, e⟩
  | tbl ps => exact ⟨_, (show h.get? a = some _ from x)⟩
  | met f y => exact ⟨_, (show h.get? a = some _ from x)⟩
  | ext φ => obtain ⟨_, ⟨_, e⟩, _⟩ := x; exact ⟨_, e⟩

/-- the objects that an error in flight leaves as they are: what is tracked, and what stood there at s₀; B is that part of the heap -/
noncomputable def KeptIn (B : Heap) (fs : List Addr) (H : Hp) (h₀ h : Heap) : Prop := ∀ b o, h.get? b = some o → b ∉ fs → (H b ≠ none ∨ ∃ o', h₀.get? b = some o') → B.get? b = some o

/-- an error of the class at C, in flight past the frames 'outer' -/
noncomputable def CX1 (P : Program) (w : World) : CXT := fun outer H s E e s' =>
  ∃ (a C t : Addr) (H' : Hp) (B : Heap), e = .ref a ∧ s'.os = s.os ∧ AllBare s'.gens ∧ Un (frs outer) [] H H' s.heap s'.heap ∧ HOk P w H' s'.heap ∧
    Heap.FlyingW B outer a (.ref C) (.ref t) s'.heap ∧ KeptIn B (frs outer) H' s.heap s'.heap ∧ H' a = none ∧ E (.ref C) none H'

section
variable {X : Cx} {pins : List (Addr × Obj)} {σ : St} {H : Hp} {s : Shared} {B h' : Heap} {outer : List Env} {env : Env} {L : Addr}
/-- a frame is left: what stands behind it -/
theorem fly_out (I : Inv X pins σ H s) (hex : X.ex = []) (hst : frs X.stack = L :: X.fs) (hL : X.env.locals = L) (kb : KeptIn B (frs X.stack) H X.s₀.heap s.heap) (st : B.StaysIn h')
    (up : ∀ b ∈ X.fs, ∀ o, s.heap.get? b = some o → ∃ sl, h'.get? b = some { o with slots := sl }) :
    Un X.fs [] X.H₀ H X.s₀.heap h' ∧ HOk X.prog X.w H h' ∧ KeptIn B X.fs H X.s₀.heap h' := by
  have nex : ∀ b : Addr, b ∉ X.ex := fun b hb => by rw [hex] at hb; exact absurd hb (by simp)
  have old : ∀ b o, X.s₀.heap.get? b = some o → b ≠ L := fun b o e z => by
    have h1 := Heap.lt_size e
    have h2 := I.ok.above
    rw [hL, ← z] at h2
    exact absurd (Nat.lt_of_lt_of_le h1 h2) (Nat.lt_irrefl _)
  have out : ∀ b, b ≠ L → b ∉ X.fs → b ∉ frs X.stack := fun b h1 h2 hb => by
    rw [hst] at hb
    rcases List.mem_cons.mp hb with z | z
    · exact h1 z
    · exact h2 z
  have thru : ∀ b o, s.heap.get? b = some o → b ≠ L → b ∉ X.fs → (H b ≠ none ∨ ∃ o', X.s₀.heap.get? b = some o') → B.get? b = some o ∧ h'.get? b = some o := fun b o e h1 h2 h3 => by
    have q := kb b o e (out b h1 h2) h3
    exact ⟨q, st b o q⟩
  have trk : ∀ b, H b ≠ none → b ∉ frs X.stack := fun b hb hm => hb (I.stkFree b hm)
  refine ⟨⟨fun b o e n hb _ => ?_, fun b o e n hb _ => ?_, fun b o e n _ => I.base.free b o e n (nex b), fun b o e _ => ?_, I.base.tups, I.base.frzs, I.base.tbls⟩, fun a o e => ?_, fun b o e hb hc => ?_⟩
  · exact (thru b o (I.base.keep b o e n hb (nex b)) (old b o e) hb (.inr ⟨o, e⟩)).2
  · obtain ⟨sl, e1⟩ := I.base.slot b o e n hb (nex b)
    obtain ⟨sl2, e2⟩ := up b hb _ e1
    exact ⟨sl2, e2⟩
  · obtain ⟨o', e1⟩ := I.base.there b o e (nex b)
    by_cases hb : b ∈ X.fs
    · obtain ⟨sl, e2⟩ := up b hb _ e1
      exact ⟨_, e2⟩
    · exact ⟨o', (thru b o' e1 (old b o e) hb (.inr ⟨o, e⟩)).2⟩
  · refine (I.hok a o e).stay (fun b u hb q => ?_) (fun _ q => q) fun _ _ q => q
    have hne : H b ≠ none := by
      rcases hb with rfl | hb
      · rw [e]; simp
      · rw [hb]; simp
    exact st b u (kb b u q (trk b hne) (.inl hne))
  · have hs : ∃ u, s.heap.get? b = some u := by
      rcases hc with hc | ⟨o', e'⟩
      · cases q : H b with
        | none => exact absurd q hc
        | some u => exact ObjOk.there (I.hok b u q)
      · exact I.base.there b o' e' (nex b)
    obtain ⟨u, hu⟩ := hs
    have hbL : b ≠ L := by
      rcases hc with hc | ⟨o', e'⟩
      · rintro rfl
        exact hc (by rw [← hL]; exact I.free)
      · exact old b o' e'
    obtain ⟨q1, q2⟩ := thru b u hu hbL hb hc
    rw [q2] at e
    cases e
    exact q1
end

section
variable {P : Program} {w : World} {K : PySem.W.Frag} {mg : Str → Option Value} {base : Heap} {N : List Str} {qual : Str} {scope : Scope} {f : Addr} {cd : Value} {A : Around} {outer : List Env} {s₀ : Shared} {H₀ : Hp} {E : XK}
/-- an error of a callee passes on -/
theorem passes_on : Passes (CX1 P w) (cxOf (CX1 P w) P w K mg base N qual scope f cd A outer s₀ H₀ E) E := by
  intro pins σ H s e s' I h
  obtain ⟨a, C, t, H', B, rfl, os, bare, un, hok, fl, kb, na, hE⟩ := h
  have I' : Inv (cxOf (CX1 P w) P w K mg base N qual scope f cd A outer s₀ H₀ E) pins σ H' s' := I.call' (ch := []) os un hok bare (fun b hb => absurd hb (by simp))
  have kb' : KeptIn B (frs (cxOf (CX1 P w) P w K mg base N qual scope f cd A outer s₀ H₀ E).stack) H' s₀.heap s'.heap := fun b o e hb hc => kb b o e hb (by
    rcases hc with hc | ⟨o', e'⟩
    · exact .inl hc
    · exact .inr (I.base.there b o' e' (by simp [cxOf])))
  refine wpAny_leaves_onW (base := B) (outer := outer) (L := s₀.heap.objs.size) I.ok.frames rfl fl fun h'' fl' up => ?_
  have ff := fl.2.2.1
  obtain ⟨u1, u2, u3⟩ := fly_out (h' := h'') (L := s₀.heap.objs.size) I' rfl rfl rfl kb' fl'.1 (fun b hb o e => by
    obtain ⟨_, o', e', nf⟩ := ff.mem (show b ∈ (envOfC qual scope s₀.heap.objs.size f cd :: outer).filterMap (·.frame) from List.mem_cons_of_mem _ hb)
    rw [e] at e'; cases e'
    exact up b o e nf)
  exact ⟨a, C, t, H', B, rfl, I'.os, bare, u1, u2, fl', u3, na, hE⟩
/-- an error is made here -/
theorem passes_made {pins : List (Addr × Obj)} {σ : St} {H : Hp} {s : Shared} {C e : Addr} {h' : Heap} {vs : List Value} (I : Inv (cxOf (CX1 P w) P w K mg base N qual scope f cd A outer s₀ H₀ E) pins σ H s)
    (hx : Heap.MadeExcOf s.heap h' e (.ref C) vs) (hE : E (.ref C) none H) : (cxOf (CX1 P w) P w K mg base N qual scope f cd A outer s₀ H₀ E).xe (.ref e) { s with heap := h' } := by
  have hin : ∀ env ∈ (envOfC qual scope s₀.heap.objs.size f cd :: outer), ∀ b, env.frame = some b → b ∈ frs (envOfC qual scope s₀.heap.objs.size f cd :: outer) := fun env he b hb => List.mem_filterMap.mpr ⟨env, he, hb⟩
  have hl : s.heap.FunFrames (PySem.W.hideAll s.heap (frs (envOfC qual scope s₀.heap.objs.size f cd :: outer))) (envOfC qual scope s₀.heap.objs.size f cd :: outer) := PySem.W.funFrames_hide (base := base) I.stack hin
  refine wpAny_leaves_madeW (base := PySem.W.hideAll s.heap (frs (envOfC qual scope s₀.heap.objs.size f cd :: outer))) (h := s.heap) (outer := outer) (L := s₀.heap.objs.size) I.ok.frames rfl (fun b o q => PySem.W.of_hideAll _ q) hl hx fun h'' t fl _ _ up => ?_
  have kb : KeptIn (PySem.W.hideAll s.heap (frs (envOfC qual scope s₀.heap.objs.size f cd :: outer))) (frs (cxOf (CX1 P w) P w K mg base N qual scope f cd A outer s₀ H₀ E).stack) H s₀.heap s.heap := fun b o q hb _ => PySem.W.hideAll_get _ q hb
  obtain ⟨u1, u2, u3⟩ := fly_out (h' := h'') (L := s₀.heap.objs.size) I rfl rfl rfl kb fl.1 (fun b hb o q => by
    obtain ⟨_, o', e', nf⟩ := hl.mem (show b ∈ (envOfC qual scope s₀.heap.objs.size f cd :: outer).filterMap (·.frame) from List.mem_cons_of_mem _ hb)
    rw [q] at e'; cases e'
    exact up b o (hx.keeps b o q) nf)
  have ne : H e = none := by
    cases q : H e with
    | none => rfl
    | some u =>
      obtain ⟨v, hv⟩ := ObjOk.there (I.hok e u q)
      rw [hx.new] at hv
      cases hv
  exact ⟨e, C, t, H, _, rfl, I.os, I.bare, u1, u2, fl, u3, ne, hE⟩
end

section
variable {P : Program} {w : World} {K : PySem.W.Frag} {mg : Str → Option Value} {base : Heap}
/-- a def that may raise: its body -/
theorem Fun.okX {x qual : Str} {st : Stmt} {f : Addr} {fd : FuncData} {N ps : List Str} {k : Nat} {sp : Sp} (F : Fun K x qual st f fd) (S : FnScope N ps (defScope st)) (len : ∀ vs H Q E, sp vs H Q E → vs.length = ps.length)
    (hbody : ∀ (cdv : Value) (A : Around) (outer : List Env) (s : Shared) (H : Hp) (vs : List V) (Q : VK) (E : XK), Room k (A.deeper (envOfC qual (defScope st) s.heap.objs.size f cdv)) → sp vs H Q E →
      ∃ t, PSs (cxOf (CX1 P w) P w K mg base N qual (defScope st) f cdv A outer s H E) (defBody st) t ∧ t { nx := fun _ H' => Q .non H', rt := Q } (start N vs) H) : FnOk P w K mg base (CX1 P w) (k + 1) f fd ps sp := by
  obtain ⟨oc, od, kV, doc, pm, an, cdv, ct, osl, rfl, lk, hcd⟩ := F.ex
  exact fn_of lk hcd S len fun A outer s H vs Q E hr hsp => hbody cdv A outer s H vs Q E hr hsp
end

/-! ### raise C(..) -/
/-- the class of an error of the program's own, as the text has it -/
structure ExcCls (K : PySem.W.Frag) (mg : Str → Option Value) (x : Str) (C : Addr) : Prop where
  at_ : PySem.W.nsIn K mainGlobals x = some (some (.ref C))
  bound : mg x = some (.ref C)
  exc : PySem.W.excIn K C [.type "ValueError", .type "Exception", .type "BaseException", .type "object"] "ValueError.__new__" = true
section
variable {X : Cx} {x : Str} {C : Addr}
theorem ExcCls.own {K : PySem.W.Frag} {mg : Str → Option Value} {h : Heap} (E : ExcCls K mg x C) (KX : K.In h) (G : h.Ns mainGlobals mg) : OwnCls x C [.type "ValueError", .type "Exception", .type "BaseException", .type "object"] "ValueError.__new__" mg h := by
  have q := E.exc
  refine ⟨E.bound, ?_⟩
  unfold PySem.W.excIn at q
  split at q
  · rename_i dd cd sl ho
    split at q
    · rename_i C' bm k0 k1 k2 k3 n k5 hm hs
      simp only [Bool.and_eq_true, beq_iff_eq, Bool.not_eq_true'] at q
      obtain ⟨⟨⟨⟨⟨rfl, rfl⟩, hdel⟩, ht⟩, hok⟩, hni⟩ := q
      obtain ⟨nm, bs, mro, ns, qn, hd, sn, sub, ab, col, del⟩ := cd
      dsimp only at hm hdel hok hni
      subst hm hdel
      have hsl : sl = #[k0, k1, k2, k3, some (.builtin "ValueError.__new__"), k5] := by
        obtain ⟨l⟩ := sl
        simp only at hs
        rw [hs]
      subst hsl
      exact ⟨bm, ns, nm, qn, bs, hd, sn, sub, ab, col, dd, k0, k1, k2, k3, k5, _, KX _ _ ho, .of_isNs (PySem.W.isNs_of_in KX hok), PySem.W.nsMap_none_of_in KX hok hni, PySem.W.tail_of_in KX ht⟩
    · cases q
  · cases q
/-- what an error made here must reach -/
noncomputable def Mades (X : Cx) (C : Addr) (E : St → XK) : Prop := ∀ (pins : List (Addr × Obj)) (σ : St) (H : Hp) (s : Shared) (e : Addr) (h' : Heap) (vs : List Value), Inv X pins σ H s → Heap.MadeExcOf s.heap h' e (.ref C) vs → E σ (.ref C) none H → X.xe (.ref e) { s with heap := h' }
noncomputable def tRaise (C : Addr) (E : St → XK) (ta : TA) : TS := fun _ σ H => ta σ H fun vs H1 => vs.length ≤ sizeLine ∧ E σ (.ref C) none H1
theorem ps_raise {e₀ : Expr} {es : List Expr} {ta : TA} {E : St → XK} {np cpos pos : Pos} (hh : X.calm = true) (c : ExcCls X.K X.mg x C) (hg : Gl X x) (hm : Mades X C E) (ha : PA X (e₀ :: es) ta)
    (he : starEach (e₀ :: es) X.env = (false, eval e₀ X.env) :: starEach es X.env := by exact star_of rfl) (hplain : (backTo cpos (starEach es X.env)).any (·.1) = false := by rfl) (hd : (x == ("__debug__" : Str)) = false := by decide) :
    PS X (.Raise (some (.Call (.Name x np) (e₀ :: es) [] cpos)) none pos) (tRaise C E ta) := by
  intro pins s σ H D I h
  obtain ⟨tl, N, nm, q, bs, hdct, sn, sub, ab, col, dd, k0, k1, k2, k3, k5, mN, hC, hN, hni, T⟩ := (c.own I.mod.kin I.mod.glob).obj
  refine wpAny_Raise_call_subT (C := C) (nm := nm) (q := q) (N := N) (bs := bs) (bm := tl) (hdct := hdct) (sn := sn) (sub := sub) (ab := ab) (col := col) (dd := dd) (k0 := k0) (k1 := k1) (k2 := k2) (k3 := k3) (k5 := k5)
    F.excBase_ValueError (mN := mN) (T.hasType F.excBase_ValueError.hasBase) (I.ok.hd hh) (by rw [he]; show (false || (backTo cpos (starEach es X.env)).any (·.1)) = false; rw [hplain]; rfl) hni (ld_glob I hg c.bound ⟨rfl, ?_⟩ hd)
  have hA := ha cpos pins s σ H _ I h
  rw [he] at hA ⊢
  refine Calls.evalArgs_plain (wpAny_mono hA (fun us s₂ h₂ => ?_) fun _ _ y => y)
  obtain ⟨vs, H1, I1, rv, hl, hE⟩ := h₂
  have hk := I1.bk
  exact ⟨rfl, by rw [← rv.length]; exact hl, hk _ _ hC, hN.keeps hk, T.keeps hk, fun h' e hx => hm pins σ H1 s₂ e h' _ I1 hx hE⟩
end

/-! ### a call, the wish about errors by the names' values -/
noncomputable def tCallX (sp : Sp) (E : St → XK) (t : TA) : TE := fun σ H Q => t σ H fun vs H1 => sp vs H1 Q (E σ)
noncomputable def PassesX (CX : CXT) (X : Cx) (E : St → XK) : Prop := ∀ (pins : List (Addr × Obj)) (σ : St) (H : Hp) (s : Shared) (e : Value) (s' : Shared), Inv X pins σ H s → CX X.stack H s (E σ) e s' → X.xe e s'
section
variable {X : Cx} {CX : CXT} {k : Nat} {f : Addr} {fd : FuncData} {ps : List Str} {sp : Sp} {E : St → XK} {x : Str} {p pos : Pos} {e : Expr} {es : List Expr} {t : TA}
theorem run_fnX {pins : List (Addr × Obj)} {σ : St} {H : Hp} {s : Shared} {Q : VK} {us : List Value} {vs : List V} (F : FnOk X.prog X.w X.K X.mg X.base CX k f fd ps sp) (hr : Room k X.A) (hb : Binds X.K fd ps []) (hx : PassesX CX X E) (I : Inv X pins σ H s)
    (r : Vals vs us) (h : sp vs H Q (E σ)) : wpAny (model X.prog X.w) X.A (call (.ref f) us) (EP X pins σ Q) X.xe s := by
  have hl := F.len _ _ _ _ h
  have hl' : us.length = ps.length := by rw [← r.length]; exact hl
  refine wpAny_call (codeAny_mono (F.run X.A X.stack s H ⟨us, []⟩ us vs Q (E σ) hr I.env0 ?_ r h) fun res s' q => ?_)
  · have := hb s us I.kIn (by rw [List.append_nil]; exact hl')
    rw [List.append_nil] at this
    exact this
  · cases res with
    | error e => exact hx pins σ H s e s' I q
    | ok fl =>
      cases fl with
      | ret u => exact I.after q
      | _ => exact False.elim q
theorem pe_callX (F : FnOk X.prog X.w X.K X.mg X.base CX k f fd ps sp) (hr : Room k X.A) (hg : Gl X x) (hm : X.mg x = some (.ref f)) (hk : PySem.W.keepIn X.K (.ref f) = true) (hb : Binds X.K fd ps []) (hx : PassesX CX X E) (ha : PA X (e :: es) t)
    (hdb : (x == ("__debug__" : Str)) = false := by decide) (he : starEach (e :: es) X.env = (false, eval e X.env) :: starEach es X.env := by exact star_of rfl) (hpl : (backTo pos (starEach es X.env)).any (·.1) = false := by rfl) :
    PE X (.Call (.Name x p) (e :: es) [] pos) (tCallX sp E t) := by
  intro pins s σ H Q I h
  refine wpAny_Call_Name_kw (ld_glob I hg hm ?_ hdb)
  refine PySem.W.callWith_K (h₀ := X.base) I.ok.mod.kin hk (thn (ha pos pins s σ H _ I h) fun us s1 ⟨vs, H1, I1, r, q⟩ => ⟨I1.kIn, ?_⟩) he hpl
  exact run_fnX F hr hb hx I1 r q
end

/-! ### try: .. except C as n: .. -/
/-- an error's object, taken -/
noncomputable def ExcAt (a C : Addr) (h : Heap) : Prop := ∃ ob vs, h.get? a = some ob ∧ ob.cls = .ref C ∧ ob.data = .fields vs
theorem ExcAt.ok {P : Program} {w : World} {H : Hp} {h : Heap} {a C : Addr} (x : ExcAt a C h) : ObjOk P w H h a (.ext (ExcAt a C)) := by
  obtain ⟨ob, vs, h1, h2, h3⟩ := id x
  exact ⟨x, ⟨ob, h1⟩, fun g1 g2 ⟨ob, vs, e1, e2, e3⟩ k => ⟨ob, vs, k ob e1, e2, e3⟩⟩
section
variable {X : Cx} {pins : List (Addr × Obj)} {σ : St} {H : Hp} {s : Shared} {a : Addr} {o : HO}
/-- an object that stands in the heap, younger than the entry, is tracked from here on -/
theorem Inv.track (I : Inv X pins σ H s) (n : H a = none) (new : X.s₀.heap.get? a = none) (nl : a ≠ X.env.locals) (nc : ∀ x c, X.env.cells.lookup x = some c → c ≠ a) (np : ∀ p ∈ X.pn ++ pins, p.1 ≠ a) (ok : ObjOk X.prog X.w (upd H a o) s.heap a o) :
    Inv X pins σ (upd H a o) s := by
  have ne : ∀ {b : Addr} {u : HO}, H b = some u → b ≠ a := fun e z => by subst z; rw [n] at e; cases e
  have st : ∀ {b : Addr} {u : HO}, H b = some u → upd H a o b = some u := fun e => by rw [upd_ne (ne e)]; exact e
  refine ⟨I.ok, I.os, I.bare, ⟨I.base.keep, I.base.slot, fun b u e z hx => ?_, I.base.there, fun b xs e => st (I.base.tups b xs e), fun b u v e => st (I.base.frzs b u v e), fun b ps e => ?_⟩, I.loc, I.cell, ?_, fun x c e => ?_, fun p hp => ?_, fun b u e => ?_, I.len⟩
  · have hb : b ≠ a := fun q => by rw [q, new] at e; cases e
    rw [upd_ne hb]
    exact I.base.free b u e z hx
  · obtain ⟨more, e'⟩ := I.base.tbls b ps e
    exact ⟨more, st e'⟩
  · rw [upd_ne nl.symm]; exact I.free
  · rw [upd_ne (nc x c e)]; exact I.freeC x c e
  · obtain ⟨h1, h2, h3⟩ := I.pin p hp
    exact ⟨h1, by rw [upd_ne (np p hp)]; exact h2, h3⟩
  · by_cases hb : b = a
    · subst hb
      rw [upd_same] at e
      cases e
      exact ok
    · rw [upd_ne hb] at e
      exact (I.hok b u e).stay (fun _ _ _ q => q) (fun c q => st q) fun c xs q => st q
/-- a local name goes -/
theorem unbind_ok {M : Model} {A : Around} {E : Value → Shared → Prop} {i : Nat} {x : Str} {pos : Pos} {Q : Unit → Shared → Prop} (I : Inv X pins σ H s) (hN : X.N.Nodup) (hi : X.N[i]? = some x) (hk : X.env.scope.names.lookup x = some .local)
    (h : ∀ s', Inv X pins (σ.set i none) H s' → Q () s') : wpAny M A (do bindName X.env x .none; unbindBehindTheSuite X.env x pos) Q E s := by
  obtain ⟨m, hn, hl⟩ := id I.loc
  have hcls : (X.env.scope.kind == .class || (X.env.scope.kind == .module && X.env.locals != X.env.globals)) = false := by rw [I.ok.kind]; rfl
  have hiσ : i < σ.length := by rw [I.len]; exact (List.getElem?_eq_some_iff.mp hi).1
  refine wpAny_nameGoes_keeps hk hn hcls fun h' v hn' hs => ?_
  obtain ⟨oL, _, _, hoL, _⟩ := id hn
  have tracked : HOk X.prog X.w H h' := fun b ob e => by
    refine (I.hok b ob e).stay (fun c w' hc q => (hs.2 c ?_).trans q) (fun _ q => q) fun _ _ q => q
    rintro rfl
    rcases hc with rfl | hc
    · rw [I.free] at e; cases e
    · rw [I.free] at hc; cases hc
  have lt : ∀ {b : Addr} {o : Obj}, X.s₀.heap.get? b = some o → b ≠ X.env.locals := fun e => Nat.ne_of_lt (Nat.lt_of_lt_of_le (Heap.lt_size e) I.ok.above)
  refine h _ ⟨I.ok, I.os, I.bare, ⟨fun b o e n hb hx => ?_, fun b o e n hb hx => ?_, I.base.free, fun b o e hx => ?_, I.base.tups, I.base.frzs, I.base.tbls⟩, ⟨_, hn', fun j y v' e1 e2 e3 => ?_⟩, fun y c e => ?_, I.free, I.freeC, fun p hp => ?_, tracked, by simpa using I.len⟩
  · exact (hs.2 b (lt e)).trans (I.base.keep b o e n hb hx)
  · obtain ⟨sl, e1⟩ := I.base.slot b o e n hb hx
    exact ⟨sl, (hs.2 b (lt e)).trans e1⟩
  · obtain ⟨o', e1⟩ := I.base.there b o e hx
    exact ⟨o', (hs.2 b (lt e)).trans e1⟩
  · by_cases hj : j = i
    · subst hj
      rw [List.getElem?_set_self hiσ] at e2
      cases e2
    · rw [List.getElem?_set_ne (Ne.symm hj)] at e2
      obtain ⟨u', r', q⟩ := hl j y v' e1 e2 e3
      refine ⟨u', r', ?_⟩
      rcases q with ⟨k, e⟩ | ⟨k, c, e, z⟩
      · refine .inl ⟨k, ?_⟩
        have : y ≠ x := fun e => hj (nodup_ix hN e1 (e ▸ hi))
        simp [this, e]
      · exact .inr ⟨k, c, e, z.sameBut hs (I.cne y c e)⟩
  · obtain ⟨w', z⟩ := I.cell y c e
    exact ⟨w', z.sameBut hs (I.cne y c e)⟩
  · obtain ⟨e, n, ne, nf, d⟩ := I.pin p hp
    exact ⟨(hs.2 p.1 ne).trans e, n, ne, nf, d⟩
end

/-- the context of a try's body: an error of a callee is to be one that Hand takes -/
noncomputable def inTry (X : Cx) (pins : List (Addr × Obj)) (Hand : Addr → St → Hp → Prop) : Cx :=
  { X with pn := X.pn ++ pins, xe := fun e s' => ∃ (σ : St) (H : Hp) (s : Shared), Inv X pins σ H s ∧ CX1 X.prog X.w X.stack H s (fun c _ H' => ∃ C, c = .ref C ∧ Hand C σ H') e s' }
noncomputable def handE (Hand : Addr → St → Hp → Prop) : St → XK := fun σ c _ H' => ∃ C, c = .ref C ∧ Hand C σ H'
/-- the context of an except's suite -/
noncomputable def inExc (X : Cx) (pins : List (Addr × Obj)) (a : Addr) : Cx := { X with A := X.A.mark (some (.ref a)), calm := false, pn := X.pn ++ pins, xe := fun _ _ => False }
section
variable {X : Cx} {pins pins' : List (Addr × Obj)} {σ : St} {H : Hp} {s : Shared} {a : Addr} {Hand : Addr → St → Hp → Prop}
theorem inTry.of (I : Inv X pins σ H s) : Inv (inTry X pins Hand) [] σ H s :=
  ⟨⟨I.ok.mod, I.ok.kind, I.ok.glob, I.ok.blt, I.ok.above, I.ok.inj, I.ok.has, I.ok.cab, I.ok.hd, I.ok.frames, I.ok.stk, I.ok.exf, I.ok.bs, I.ok.bsz, I.ok.noex, I.ok.exfs, I.ok.funs, I.ok.frf⟩, I.os, I.bare, I.base, I.loc, I.cell, I.free, I.freeC,
    fun p hp => I.pin p (by simpa [inTry] using hp), I.hok, I.len⟩
theorem inTry.back (I : Inv (inTry X pins Hand) pins' σ H s) : Inv X pins σ H s :=
  ⟨⟨I.ok.mod, I.ok.kind, I.ok.glob, I.ok.blt, I.ok.above, I.ok.inj, I.ok.has, I.ok.cab, I.ok.hd, I.ok.frames, I.ok.stk, I.ok.exf, I.ok.bs, I.ok.bsz, I.ok.noex, I.ok.exfs, I.ok.funs, I.ok.frf⟩, I.os, I.bare, I.base, I.loc, I.cell, I.free, I.freeC,
    fun p hp => I.pin p (List.mem_append_left _ hp), I.hok, I.len⟩
theorem inExc.of (I : Inv X pins σ H s) : Inv (inExc X pins a) [] σ H s :=
  ⟨⟨I.ok.mod, I.ok.kind, I.ok.glob, I.ok.blt, I.ok.above, I.ok.inj, I.ok.has, I.ok.cab, (fun h => by cases h), I.ok.frames, I.ok.stk, I.ok.exf, I.ok.bs, I.ok.bsz, I.ok.noex, I.ok.exfs, I.ok.funs, I.ok.frf⟩, I.os, I.bare, I.base, I.loc, I.cell, I.free, I.freeC,
    fun p hp => I.pin p (by simpa [inExc] using hp), I.hok, I.len⟩
theorem inExc.back (ok : X.Ok) (I : Inv (inExc X pins a) pins' σ H s) : Inv X pins σ H s :=
  ⟨ok, I.os, I.bare, I.base, I.loc, I.cell, I.free, I.freeC, fun p hp => I.pin p (List.mem_append_left _ hp), I.hok, I.len⟩
theorem inTry.passes : PassesX (CX1 X.prog X.w) (inTry X pins Hand) (handE Hand) := fun pins' σ H s e s' I h => ⟨σ, H, s, inTry.back I, h⟩
end
/-- behind the suite the name is gone -/
noncomputable def behind (i : Nat) (D : Ends) : Ends := { nx := fun σ H => D.nx (σ.set i none) H, rt := D.rt, bk := fun σ H => D.bk (σ.set i none) H, ct := fun σ H => D.ct (σ.set i none) H }
noncomputable def tTry (K : PySem.W.Frag) (Ch : Addr) (i : Nat) (tb : (Addr → St → Hp → Prop) → TS) (ts : TS) : TS := fun D σ H => ∃ Hand : Addr → St → Hp → Prop,
  (∀ C σ' H' a, Hand C σ' H' → H' a = none → PySem.W.exmOne K (.ref C) (.ref Ch) = some true ∧ ts (behind i D) (σ'.set i (some (.ref a))) (upd H' a (.ext (ExcAt a C)))) ∧ tb Hand D σ H
theorem ps_try {X : Cx} {body : List Stmt} {b₀ : Stmt} {suite : List Stmt} {x n : Str} {np hpos pos : Pos} {Ch : Addr} {i : Nat} {tb : (Addr → St → Hp → Prop) → TS} {ts : TS}
    (hex : X.ex = []) (hst : ∃ outer, X.stack = X.env :: outer) (hf : X.env.frame = some X.env.locals) (hN : X.N.Nodup) (hi : X.N[i]? = some n) (hn : X.env.scope.names.lookup n = some .local) (hg : Gl X x) (hm : X.mg x = some (.ref Ch))
    (hb : ∀ pins Hand, PSs (inTry X pins Hand) body (tb Hand)) (hs : ∀ pins a, PSs (inExc X pins a) (b₀ :: suite) ts) (hd : (x == ("__debug__" : Str)) = false := by decide) :
    PS X (.Try body [.ExceptHandler (some (.Name x np)) (some n) (b₀ :: suite) hpos] [] [] pos) (tTry X.K Ch i tb ts) := by
  intro pins s σ H D I h
  obtain ⟨Hand, hH, hT⟩ := h
  obtain ⟨outer, hst⟩ := hst
  refine wpAny_Try_except (wpAny_mono (hb pins Hand [] s σ H D (inTry.of I) hT) (fun f s₁ q => ?_) fun e s₁ q => ?_)
  · cases f with
    | next =>
      obtain ⟨σ', H', I', q'⟩ := q
      exact pss_nil pins s₁ σ' H' D (inTry.back I') q'
    | brk => obtain ⟨σ', H', I', q'⟩ := q; exact ⟨σ', H', inTry.back I', q'⟩
    | cont => obtain ⟨σ', H', I', q'⟩ := q; exact ⟨σ', H', inTry.back I', q'⟩
    | ret u => obtain ⟨v, σ', H', I', r, q'⟩ := q; exact ⟨v, σ', H', inTry.back I', r, q'⟩
  · obtain ⟨σ', H1, s1, I1, a, C, t, H', B, rfl, os, bare, un, hok, fl, kb, na, C', eC, hC⟩ := q
    cases eC
    obtain ⟨hx, hsu⟩ := hH C σ' H' a hC na
    have I2 : Inv X pins σ' H' s₁ := I1.call' (ch := []) os un hok bare (fun b hb => absurd hb (by simp))
    have ff := fl.2.2.1
    -- the error's object is none of those that stood at the call
    obtain ⟨oe, vs, he, hec, hed, _⟩ := fl.first
    have nfr : a ∉ frs X.stack := fun hm => by
      obtain ⟨_, o, ho, hnf⟩ := ff.mem (show a ∈ X.stack.filterMap (·.frame) from hm)
      rw [he] at ho; cases ho
      exact hnf vs hed
    have new1 : s1.heap.get? a = none := by
      cases q : s1.heap.get? a with
      | none => rfl
      | some o =>
        have := kb a oe he nfr (.inr ⟨o, q⟩)
        rw [fl.2.1] at this
        cases this
    -- the state at any heap that B stays in
    have at_ : ∀ (h₂ : Heap) (tk : Nat), B.StaysIn h₂ → s₁.heap.UpToSlots h₂ → Inv X pins σ' H' { s₁ with heap := h₂, toks := tk } := fun h₂ tk st up => by
      have trk : ∀ b, H' b ≠ none → b ∉ frs X.stack := fun b hb hm => hb (I2.stkFree b hm)
      have slot : ∀ b ∈ frs X.stack, ∀ o, s₁.heap.get? b = some o → ∃ sl, h₂.get? b = some { o with slots := sl } := fun b hb o e => by
        obtain ⟨_, o', e', nf⟩ := ff.mem (show b ∈ X.stack.filterMap (·.frame) from hb)
        rw [e] at e'; cases e'
        exact up b o e nf
      refine I1.call' (s' := { s₁ with heap := h₂, toks := tk }) (ch := []) os ⟨fun b o e n hb _ => ?_, fun b o e n hb _ => ?_, un.free, fun b o e _ => ?_, un.tups, un.frzs, un.tbls⟩ (fun b o e => ?_) bare (fun b hb => absurd hb (by simp))
      · exact st b o (kb b o (un.keep b o e n hb (by simp)) hb (.inr ⟨o, e⟩))
      · obtain ⟨sl, e1⟩ := un.slot b o e n hb (by simp)
        obtain ⟨sl2, e2⟩ := slot b hb _ e1
        exact ⟨sl2, e2⟩
      · obtain ⟨o', e1⟩ := un.there b o e (by simp)
        by_cases hb : b ∈ frs X.stack
        · obtain ⟨sl, e2⟩ := slot b hb _ e1
          exact ⟨_, e2⟩
        · exact ⟨o', st b o' (kb b o' e1 hb (.inr ⟨o, e⟩))⟩
      · refine (hok b o e).stay (fun c u hc q => ?_) (fun _ q => q) fun _ _ q => q
        have hne : H' c ≠ none := by
          rcases hc with rfl | hc
          · rw [e]; simp
          · rw [hc]; simp
        exact st c u (kb c u q (trk c hne) (.inl hne))
    have fr : X.A.frames = some (X.env :: outer) := I.ok.frames.trans (congrArg some hst)
    rw [hst] at fl
    refine wpAny_looks_onW (base := B) (outer := outer) (L := X.env.locals) fr hf fl fun h₄ held up4 => ?_
    refine wpAny_landsW held fun h₅ fl5 up5 => ?_
    have up45 := up4.trans up5
    have I5 := at_ h₅ s₁.toks fl5.1 up45
    refine wpAny_handleBy_cons (codeAny_handlers_test ?_) (by intro q; cases q)
    have J5 : Inv (inExc X pins a) [] σ' H' { s₁ with heap := h₅ } := inExc.of I5
    refine ld_glob (X := inExc X pins a) J5 hg hm ?_ hd
    obtain ⟨ob, hob, hobc⟩ := fl5.there
    have LT : PySem.W.Looks (model X.prog X.w) h₅ (typeOf (.ref a)) (.ref C) := hobc ▸ (PySem.W.Looks.ld hob).andThen .now
    refine (PySem.W.exm_one I5.kIn LT hx).here (s := { s₁ with heap := h₅ }) ?_
    refine codeAny_handlers_suite_as ?_
    refine lands_againW fl5 fun h₆ fl6 up6 => ?_
    have I6 := at_ h₆ s₁.toks fl6.1 (up45.trans up6)
    obtain ⟨oe6, vs6, he6, hec6, hed6, _⟩ := fl6.first
    have I7 : Inv X pins σ' (upd H' a (.ext (ExcAt a C))) { s₁ with heap := h₆ } := by
      refine Inv.track I6 na ?_ (fun z => ?_) (fun y c e z => ?_) (fun p hp z => ?_) (ExcAt.ok ⟨oe6, vs6, he6, hec6, hed6⟩)
      · cases q : X.s₀.heap.get? a with
        | none => rfl
        | some o =>
          obtain ⟨o', e'⟩ := I1.base.there a o q (by rw [hex]; simp)
          rw [new1] at e'; cases e'
      · exact nfr (by rw [hst, z]; exact List.mem_filterMap.mpr ⟨X.env, .head _, hf⟩)
      · obtain ⟨v, o, e', _⟩ := I1.cell y c e
        rw [z, new1] at e'; cases e'
      · obtain ⟨e', _⟩ := I1.pin p hp
        rw [z, new1] at e'; cases e'
    have J7 : Inv (inExc X pins a) [] σ' (upd H' a (.ext (ExcAt a C))) { s₁ with heap := h₆ } := inExc.of I7
    refine store_ok (X := inExc X pins a) J7 hN hi (.inl hn) (show RelV (.ref a) (.ref a) from rfl) (fun s8 J8 => ?_) (.inr hn)
    refine wpAny_mono (hs pins a [] s8 _ _ (behind i D) J8 hsu) (fun f s9 q => ?_) fun _ _ q => q.elim
    show wpAny _ X.A (do bindName X.env n .none; unbindBehindTheSuite X.env n hpos) (fun _ s₃ => SP X pins D f s₃) X.xe s9
    cases f with
    | next => obtain ⟨σ9, H9, I9, q9⟩ := q; exact unbind_ok (inExc.back I.ok I9) hN hi hn fun s' I' => ⟨_, H9, I', q9⟩
    | brk => obtain ⟨σ9, H9, I9, q9⟩ := q; exact unbind_ok (inExc.back I.ok I9) hN hi hn fun s' I' => ⟨_, H9, I', q9⟩
    | cont => obtain ⟨σ9, H9, I9, q9⟩ := q; exact unbind_ok (inExc.back I.ok I9) hN hi hn fun s' I' => ⟨_, H9, I', q9⟩
    | ret u => obtain ⟨v, σ9, H9, I9, r, q9⟩ := q; exact unbind_ok (inExc.back I.ok I9) hN hi hn fun s' I' => ⟨v, _, H9, I', r, q9⟩
end Fb

/-! Texts written by f-strings, isinstance, small heaps. -/
namespace Fb
open PySem PySem.Spec PySem.Calls PyProof.Rows L2

/-! ### f"..{x!r}.." -/
noncomputable def tJoin : List TE → St → Hp → Str → (Str → Hp → Prop) → Prop
  | [], _, H, acc, Q => Q acc H
  | t :: r, σ, H, acc, Q => t σ H fun v H1 => ∃ y, v = .str y ∧ (acc ++ y).length ≤ sizeLine ∧ tJoin r σ H1 (acc ++ y) Q
noncomputable def PJ (X : Cx) (es : List Expr) (ts : List TE) : Prop := ∀ (pins : List (Addr × Obj)) (s : Shared) (σ : St) (H : Hp) (acc : Str) (R : Str → Shared → Prop) (Q : Str → Hp → Prop), Inv X pins σ H s → tJoin ts σ H acc Q →
  (∀ out s' H', Inv X pins σ H' s' → Q out H' → R out s') → Joins (model X.prog X.w) X.A X.xe (evalEach es X.env) acc R s
section
variable {X : Cx} {e e₁ e₂ : Expr} {es : List Expr} {t : TE} {ts : List TE} {pos : Pos}
theorem pj_nil : PJ X [] [] := fun pins s σ H acc R Q I h k => k acc s H I h
theorem pj_cons (he : PE X e t) (hr : PJ X es ts) : PJ X (e :: es) (t :: ts) := fun pins s σ H acc R Q I h k => by
  show wpAny _ _ (eval e X.env) _ _ _
  refine wpAny_mono (he pins s σ H _ I h) (fun v s₁ h₁ => ?_) fun _ _ z => z
  obtain ⟨x, H1, I1, r1, y, rfl, hl, hq⟩ := h₁
  obtain ⟨tk, rfl⟩ := r1
  exact ⟨y, tk, rfl, hl, hr pins s₁ σ H1 (acc ++ y) R Q I1 hq k⟩
noncomputable def tJoined (ts : List TE) : TE := fun σ H Q => tJoin ts σ H Str.empty fun out H1 => out.length ≤ sizeLine ∧ Q (.str out) H1
theorem pe_joined (h : PJ X (e₁ :: e₂ :: es) ts) : PE X (.JoinedStr (e₁ :: e₂ :: es) pos) (tJoined ts) := fun pins s σ H Q I hw => by
  refine wpAny_JoinedStr (h pins s σ H Str.empty _ _ I hw fun out s' H' I' q => ⟨q.1, ?_⟩)
  exact ⟨.str out, H', I'.tok _, ⟨_, rfl⟩, q.2⟩
/-- {x!r} of a text -/
noncomputable def tFmtR (te : TE) : TE := fun σ H Q => te σ H fun v H1 => ∃ x, v = .str x ∧ (reprText x).length ≤ sizeLine ∧ Q (.str (reprText x)) H1
theorem pe_fmtR (he : PE X e t) : PE X (.FormattedValue e 114 none pos) (tFmtR t) := fun pins s σ H Q I hw => by
  refine wpAny_FormattedValue_repr (wpAny_mono (he pins s σ H _ I hw) (fun v s₁ h₁ => ?_) fun _ _ z => z)
  obtain ⟨y, H1, I1, r1, x, rfl, hl, hq⟩ := h₁
  obtain ⟨tk, rfl⟩ := r1
  refine wpAny_pyReprObj_str ?_ hl
  exact wpAny_formatField_str ⟨.str (reprText x), H1, I1.tok _, ⟨_, rfl⟩, hq⟩ ⟨.str (reprText x), H1, I1.tok _, ⟨_, rfl⟩, hq⟩ hl

/-! ### isinstance(x, C) -/
noncomputable def valC : V → Value
  | .ty n => .type n
  | .ref a => .ref a
  | _ => .none
theorem call_isi : CallR X (.builtin "isinstance") (fun xs H Q => ∃ x c t b, xs = [x, c] ∧ TyOf X.K H x t ∧ PySem.W.kitOne X.K t (valC c) = some b ∧ Q (.bl b) H) := by
  intro pins s σ H xs us Q I r h
  obtain ⟨x, c, t, b, rfl, ty, e, q⟩ := h
  obtain ⟨u, u2, rfl, ru, ru2⟩ := vals2 r
  have ec : valC c = u2 := by
    have e' := e
    cases c with
    | ty n => exact (show u2 = Value.type n from ru2).symm
    | ref a => exact (show u2 = Value.ref a from ru2).symm
    | _ =>
      have z : PySem.W.kitOne X.K t .none = some b := e
      unfold PySem.W.kitOne at z
      split at z
      · rename_i q'
        have := beq_iff_eq.mp q'
        subst this
        cases ty
      · cases z
  rw [ec] at e
  exact isinst_ok I ru ty e fun tk => ⟨.bl b, H, I.tok _, rfl, q⟩
end

/-! ### d.setdefault(k, x) -/
noncomputable def rSetD : V → List V → Hp → VK → Prop := fun x vs H Q => ∃ d kvs k y, x = .ref d ∧ vs = [kV k, y] ∧ H d = some (.dK kvs) ∧ kvs.length < sizeLine ∧
  (∀ v, valV kvs k = some v → Q v H) ∧ (valV kvs k = none → Q y (upd H d (.dK (putK kvs k y))))
theorem mt_setD {X : Cx} : MtM X "dict.setdefault" rSetD := by
  intro pins s σ H x vs v us Q I rx rv h
  obtain ⟨d, kvs, k, y, rfl, rfl, hH, hz, q1, q2⟩ := h
  cases rx
  obtain ⟨u, u2, rfl, ru, ru2⟩ := rv.two
  obtain ⟨z, hd, ws, rel, dd⟩ := dk_of I.hok hH
  have hl : ws.length ≤ sizeLine := by rw [← rel.length]; exact z
  refine call_meetsIn PySem.F.slot_dict_setdefault dd.typeIs PySem.F.entry_dict_setdefault (PySem.F.args_dict_setdefault_3 _ _ _) (PySem.kt_meets_setdefault (mixKind X.prog X.w) d (kV_is ru) hd u2) ⟨ws, dd, hl, fun v hv => ?_, fun hn h' dd' hs => ?_⟩
  · have r := rel.val k
    rw [hv] at r
    cases e : valV kvs k with
    | none => rw [e] at r; exact r.elim
    | some v' =>
      rw [e] at r
      exact ⟨v', H, I.tok _, r, q1 v' e⟩
  · have r := rel.val k
    rw [hn] at r
    cases e : valV kvs k with
    | some v' => rw [e] at r; exact r.elim
    | none =>
      have he : ∃ q, h'.get? d = some q := let ⟨q, _, _, hq, _⟩ := dd'; ⟨q, hq⟩
      have hl2 : (putK kvs k y).length ≤ sizeLine := by have := length_putK kvs k y; omega
      exact ⟨y, _, d_write I (by rw [hH]; exact True.intro) hs he (dk_new hl2 hd (rel.put k ru2) dd'), ru2, q2 e⟩

/-! ### heaps -/
theorem _root_.L2.Same.new {H : Hp} {p : Addr} (h : H p = none) (o : HO) : Same H (upd H p o) := fun b u q => by rw [upd_ne (ne_of_none q h)]; exact q
theorem _root_.L2.Same.put {H H' : Hp} {p : Addr} (e : Same H H') (h : H p = none) (o : HO) : Same H (upd H' p o) := fun b u q => by rw [upd_ne (ne_of_none q h)]; exact e b u q
/-! ### tables in the heap -/
noncomputable def RowAt (H : Hp) (a : Addr) (r : Row) : Prop := H a = some (.tup [.str r.1, .int r.2.1, .str r.2.2])
noncomputable abbrev RowsAt (H : Hp) : List Addr → List Row → Prop := Paired (RowAt H)
noncomputable def TabAt (H : Hp) (l : Addr) (rs : List Row) : Prop := ∃ as : List Addr, H l = some (.lst (as.map V.ref)) ∧ RowsAt H as rs
theorem RowsAt.same {H H' : Hp} (e : Same H H') : ∀ {as : List Addr} {rs : List Row}, RowsAt H as rs → RowsAt H' as rs
  | _, _, .nil => .nil
  | _, _, .cons h t => .cons (e _ _ h) (RowsAt.same e t)
theorem Pr.length {α β : Type} {R : α → β → Prop} : ∀ {xs : List α} {ys : List β}, Paired R xs ys → xs.length = ys.length
  | _, _, .nil => rfl
  | _, _, .cons _ t => by rw [List.length_cons, List.length_cons, Pr.length t]
theorem Pr.append {α β : Type} {R : α → β → Prop} : ∀ {xs xs' : List α} {ys ys' : List β}, Paired R xs ys → Paired R xs' ys' → Paired R (xs ++ xs') (ys ++ ys')
  | _, _, _, _, .nil, s => s
  | _, _, _, _, .cons h t, s => .cons h (Pr.append t s)
theorem Pr.take {α β : Type} {R : α → β → Prop} : ∀ {xs : List α} {ys : List β} (n : Nat), Paired R xs ys → Paired R (xs.take n) (ys.take n)
  | _, _, 0, _ => by rw [List.take_zero, List.take_zero]; exact .nil
  | _, _, n + 1, .nil => .nil
  | _, _, n + 1, .cons h t => .cons h (Pr.take n t)
theorem Pr.drop {α β : Type} {R : α → β → Prop} : ∀ {xs : List α} {ys : List β} (n : Nat), Paired R xs ys → Paired R (xs.drop n) (ys.drop n)
  | _, _, 0, h => h
  | _, _, n + 1, .nil => .nil
  | _, _, n + 1, .cons h t => Pr.drop n t
theorem Pr.putAt {α β : Type} {R : α → β → Prop} {x : α} {y : β} (r : R x y) {xs : List α} {ys : List β} (n : Nat) (h : Paired R xs ys) : Paired R (putAt n x xs) (putAt n y ys) :=
  Pr.append (Pr.take n h) (.cons r (Pr.drop n h))
theorem Pr.get {α β : Type} {R : α → β → Prop} : ∀ {xs : List α} {ys : List β} {i : Nat} {y : β}, Paired R xs ys → ys[i]? = some y → ∃ x, xs[i]? = some x ∧ R x y
  | _, _, _, _, .nil, e => by simp at e
  | _, _, 0, _, .cons h _, e => by simp at e; subst e; exact ⟨_, rfl, h⟩
  | _, _, i + 1, _, .cons _ t, e => by
    obtain ⟨x, h1, h2⟩ := Pr.get (i := i) t (by simpa using e)
    exact ⟨x, by simpa using h1, h2⟩
theorem map_putAt {α β : Type} (f : α → β) (n : Nat) (x : α) (xs : List α) : (putAt n x xs).map f = putAt n (f x) (xs.map f) := by
  unfold putAt
  rw [List.map_append, List.map_cons, List.map_take, List.map_drop]
theorem TabAt.same {H H' : Hp} {l : Addr} {rs : List Row} (e : Same H H') (h : TabAt H l rs) : TabAt H' l rs := let ⟨as, h1, h2⟩ := h; ⟨as, e _ _ h1, h2.same e⟩
end Fb

/-! isinstance of an error that was taken. -/
namespace Fb
open PySem PySem.Spec PySem.Calls PyProof.Rows L2 PySem.W Builtin Builtin.ObjectAttr Builtin.Getset_descriptor
structure ExcIs (K : Frag) (C : Addr) : Prop where
  cls : (clsIn K C).isSome = true
  ga : findIn K (.ref C) "__getattribute__" = some (some (.builtin "BaseException.__getattribute__"))
  gn : findIn K (.ref C) "__getattr__" = some none
  ca : findIn K (.ref C) "__class__" = some (some (.builtin "object.__class__"))
  cg : specialIn K (.builtin "object.__class__") "__get__" = some (some (.builtin "getset_descriptor.__get__"))
  ct : takesIn K (.builtin "object.__class__") = some true
  sb : subIn K (.ref C) (.type "BaseException") = some true
  so : mroIn K C (.type "object") = some true
theorem ExcAt.type {M : Model} {h : Heap} {a C : Addr} (x : ExcAt a C h) : Looks M h (typeOf (.ref a)) (.ref C) := by
  obtain ⟨ob, vs, h1, h2, _⟩ := x
  exact h2 ▸ (Looks.ld h1).andThen .now
section
variable {prog : Program} {w : World} {A : Around} {E : Value → Shared → Prop} {K : Frag} {a C : Addr} {R : Result → Shared → Prop}
theorem exc_find {M : Model} {h : Heap} (T : ExcIs K C) (X : K.In h) : Looks M h (find (.ref a) (.ref C) "__class__") (Found.bind (.builtin "getset_descriptor.__get__") (.builtin "object.__class__")) := by
  have L1 := looks_findIn (M := M) X T.ca
  have L2 : Looks M h (getOf (some (.builtin "object.__class__"))) (some (.builtin "getset_descriptor.__get__")) := looks_specialIn X T.cg
  have L3 := looks_takesIn (M := M) X T.ct
  refine L1.andThen (L2.andThen ?_)
  exact (show Looks M h (dataDescriptor? (some (.builtin "object.__class__")) (some (.builtin "getset_descriptor.__get__"))) (some (.builtin "getset_descriptor.__get__", .builtin "object.__class__")) from L3.andThen .now).andThen (Looks.tag .now)
theorem exc_class_get {s : Shared} {tp : Value} (T : ExcIs K C) (X : K.In s.heap) (I : ExcAt a C s.heap) (h : R (.ok (.ret (.ref C))) s) :
    codeAny (model prog w) A (.call (.builtin "getset_descriptor.__get__") ⟨[.builtin "object.__class__", .ref a, tp], []⟩) R s := by
  obtain ⟨hh, g, dr, t, os⟩ := s
  have L0 := I.type (M := model prog w)
  have L1 := looks_mroIn (M := model prog w) X T.so
  refine codeAny_call_builtin KF.slot_gs.plain KF.entry_gs (KF.slot_gs.check _ _ _ _ _ _ _ _ KF.type_class (KF.args_gs _ _ _) ?_)
  unfold Builtin.«getset_descriptor.__get__» descrGet
  rw [dga_obj]
  refine wpAny_bind (wpAny_pure ?_)
  unfold descrGetter descrCheckInstance descrNameAndClass isInstance
  simp only [KF.owner_class]
  repeat lk
  refine ⟨Code.quiet_builtin _ (by decide +kernel), codeAny_builtin KF.entry_class ?_⟩
  unfold Builtin.«object.__class__» shownTypeOf
  repeat lk
  exact h
theorem exc_check_ga {M : Model} {h : Heap} {g : Array GenState} {d : Drawn} {t : Nat} {os : OsState} {nameV : Value} {Q : Unit → Shared → Prop} (T : ExcIs K C) (X : K.In h) (I : ExcAt a C h) (hq : Q () ⟨h, g, d, t, os⟩) :
    wpAny M A (checkBuiltinCall "BaseException.__getattribute__" ⟨[.ref a, nameV], []⟩) Q E ⟨h, g, d, t, os⟩ := by
  have hk : builtinKind "BaseException.__getattribute__" = some .slot := by decide +kernel
  have hsplit : splitId "BaseException.__getattribute__" = some ("BaseException", "__getattribute__") := by decide +kernel
  have ha := PySem.F.args_bexc_ga (.ref a) nameV
  have LI : Looks M h (isInstance (.ref a) (.type "BaseException")) true := I.type.andThen (looks_subIn X T.sb)
  simp only [checkBuiltinCall, hk, hsplit]
  refine wpAny_bind (LI.at ?_)
  repeat (first | wp_step)
  exact hq
theorem exc_entry {s : Shared} {tk : Tok} {Q : Fin → Shared → Prop} (T : ExcIs K C) (X : K.In s.heap) (I : ExcAt a C s.heap) (hq : Q (.done (.ret (.ref C))) s) :
    wpAny (model prog w) A (Builtin.«object.__getattribute__» ⟨[.ref a, .str "__class__" tk], []⟩) Q E s := by
  obtain ⟨hh, g, dr, t, os⟩ := s
  have L0 := I.type (M := model prog w)
  have L1 := exc_find (M := model prog w) (a := a) T X
  refine wpAny_bind (wpAny_pure (wpAny_bind (wpAny_pure (wpAny_bind (L0.at (wpAny_bind (L1.at ?_)))))))
  show wpAny _ _ (bindTo (.builtin "getset_descriptor.__get__") (.builtin "object.__class__") (.ref a) (.ref C)) _ _ _
  show wpAny _ _ (holding [Value.builtin "object.__class__"] (call (.builtin "getset_descriptor.__get__") [.builtin "object.__class__", .ref a, .ref C]) >>= ret) _ _ _
  refine wpAny_bind (wpAny_holding (wpAny_call (exc_class_get T X I ?_)))
  exact wpAny_pure hq
theorem exc_attr {s : Shared} {Q : Option Value → Shared → Prop} (T : ExcIs K C) (X : K.In s.heap) (I : ExcAt a C s.heap) (hq : Q (some (.ref C)) { s with toks := s.toks + 1 }) :
    wpAny (model prog w) A (getAttr? (.ref a) "__class__") Q E s := by
  obtain ⟨hh, g, dr, t, os⟩ := s
  have L0 := I.type (M := model prog w)
  have L1 := looks_findIn (M := model prog w) X T.ga
  have L2 := looks_findIn (M := model prog w) X T.gn
  unfold getAttr? getAttrBy? getAttrBy
  refine wpAny_bind (wpAny_mkText (wpAny_bind (wpAny_attempt (wpAny_holding (wpAny_bind (L0.at (wpAny_bind (L1.at ?_))))))))
  show wpAny _ _ (getAttrByItsOwn _ _ _ _ _ _) _ _ _
  unfold getAttrByItsOwn
  refine wpAny_bind (m := hookBefore (.ref C)) (L2.at ?_)
  refine wpAny_bind (wpAny_attempt (wpAny_holding ?_))
  show wpAny _ _ (boundAndCalled (.builtin "BaseException.__getattribute__") (.ref a) (.str "__class__" t)) _ _ _
  unfold boundAndCalled
  refine wpAny_bind (wpAny_of_eq (PySem.F.attr_ValueError.ga.bind (.ref a)) ?_)
  refine wpAny_call (codeAny_call_builtin PySem.F.attr_ValueError.ga.plain PySem.F.entry_bexc_ga (exc_check_ga T X I (exc_entry T (s := ⟨hh, g, dr, t + 1, os⟩) X I ?_)))
  first
    | exact wpAny_pure (wpAny_pure hq)
    | (show wpAny _ _ _ _ _ _; exact wpAny_bind (wpAny_pure (wpAny_pure hq)))
theorem kitx_exc (T : ExcIs K C) : KitX K (.ref a) (.ref C) (ExcAt a C) where
  ty := fun _ _ _ I => I.type
  it := fun _ _ X _ => by
    obtain ⟨cd, hcd⟩ := Option.isSome_iff_exists.mp T.cls
    unfold clsIn at hcd
    split at hcd
    · rename_i c' d' cd' sl' ho
      intro A' Q' E' s' k q
      unfold isType loadHead
      exact wpAny_bind (wpAny_loadPart (k _ _ (X _ _ ho)) (wpAny_pure q))
    · cases hcd
  ne := fun h tp dd its n sl X htp => by
    obtain ⟨cd, hcd⟩ := Option.isSome_iff_exists.mp T.cls
    refine Bool.eq_false_iff.mpr fun q => ?_
    have e : C = tp := Value.ref.inj (beq_iff_eq.mp q)
    subst e
    unfold clsIn at hcd
    split at hcd
    · rename_i c' d' cd' sl' ho
      have z := (X _ _ ho).symm.trans htp
      cases z
    · cases hcd
  ca := fun X I k => exc_attr T X I k
end
/-- isinstance(e, C) of an error that was taken, of a value of any other kind -/
theorem call_isiX {X : Cx} : CallR X (.builtin "isinstance") (fun xs H Q => ∃ a C c b, xs = [.ref a, c] ∧ H a = some (.ext (ExcAt a C)) ∧ ExcIs X.K C ∧ (∃ T, c = .ty T ∨ ∃ D, c = .ref D) ∧ kitOne X.K (.ref C) (valC c) = some b ∧ Q (.bl b) H) := by
  intro pins s σ H xs us Q I r h
  obtain ⟨a, C, c, b, rfl, hH, T, hc, e, q⟩ := h
  obtain ⟨u, u2, rfl, ru, ru2⟩ := vals2 r
  cases (show u = Value.ref a from ru)
  obtain ⟨x, _, _⟩ := I.hok a _ hH
  have ec : valC c = u2 := by
    obtain ⟨T', rfl | ⟨D, rfl⟩⟩ := hc
    · exact (show u2 = Value.type T' from ru2).symm
    · exact (show u2 = Value.ref D from ru2).symm
  rw [ec] at e
  exact kia_one (kitx_exc T) I.kIn x e (fun z => nomatch z) fun tk => ⟨.bl b, H, I.tok _, rfl, q⟩
end Fb

/-! The head with the size of the script's ints. -/
namespace Fb
open PySem PySem.Spec PySem.W PySem.Calls PyProof.Rows L2
/-- an int of the size that a claim's arguments may have -/
noncomputable def Sized (x : Int) : Prop := Builtin.Int.intBits x ≤ 1048576
theorem weight_ints : ∀ (ns : List Int) (x : Int), x ∈ ns → Builtin.Int.intBits x ≤ WData.weightAll (ns.map WData.int)
  | [], _, h => by simp at h
  | n :: r, x, h => by
    have e : WData.weightAll ((n :: r).map WData.int) = Builtin.Int.intBits n + 1 + WData.weightAll (r.map WData.int) := by
      simp only [List.map_cons, WData.weightAll, WData.weight, Builtin.Int.intBits]
    rw [e]
    rcases List.mem_cons.mp h with rfl | h
    · omega
    · have := weight_ints r x h
      omega
theorem sized_of {ns : List Int} (h : WData.layableAll [WData.list (ns.map WData.int)] = true) : ∀ x ∈ ns, Sized x := fun x hx => by
  simp only [WData.layableAll, List.all_cons, List.all_nil, Bool.and_true, WData.layable, Bool.and_eq_true, decide_eq_true_eq] at h
  have h2 := h.2
  have e : WData.weight (WData.list (ns.map WData.int)) = WData.weightAll (ns.map WData.int) := by simp only [WData.weight]
  rw [e] at h2
  exact Nat.le_trans (weight_ints ns x hx) (Nat.le_trans h2 (by decide))
theorem attach_callB {l : OpenLaw} {n : Nat} {q : Program} {loose : List Str} {XP : (Str → Option Value) → Heap → Prop} {YP : World → Heap → Prop} {d : DefRec}
    (hn : l.most = some n) (hdf : d.params.defaults = [])
    (call : ∀ (w : World) (s₀ s₁ : Shared) (mg mb : Str → Option Value) (fa : Addr) (o : Obj) (pm cd doc : Value) (a : Addr) (vs : List Value) (ns : List Int),
      Ground q loose [] XP w s₀ mg mb s₁.heap → YP w s₁.heap →
      s₁.heap.get? fa = some o → o.data = .func (docDef d.name d.params d.body d.scope pm cd doc) → s₁.heap.CodeRec cd d.name → mg d.name = some (.ref fa) →
      s₁.heap.get? a = some { cls := .type "list", data := .seq vs.toArray } → IntsAre vs ns → ns.length ≤ n → (∀ x ∈ ns, Sized x) → s₁.gens = #[] →
      codeAny (model l.prog w) callerA (.call (.ref fa) ⟨[.ref a], []⟩) (fun r s' => r = .ok (.ret (.bool true)) ∧ OldK s₁.heap s'.heap ∧ s'.os = s₁.os ∧ AllBare s'.gens) s₁) :
    WalkO q loose XP YP l.row.toRowW d [] (fun f vs => PySem.call f vs) := by
  intro w s₀ s₁ mg mb G Y fa o pm cd doc dV kV ho hd hcd hD hmg hg args vals as hpre hlay hrd hwl hlo
  obtain rfl : dV = .none := Dflts.none hD hdf
  obtain rfl : kV = .none := Dflts.noKw hD
  obtain ⟨a, vs, ns, rfl, rfl, hobj, hints, hlen⟩ := Att.script_of hn hpre hwl
  refine enter_call (codeAny_mono (call w s₀ s₁ mg mb fa o pm cd doc a vs ns G Y ho (fd_plain hd) hcd hmg hobj hints hlen (sized_of hlay) hg) fun r s' hq => ?_)
  obtain ⟨rfl, h2, h3, h4⟩ := hq
  exact ⟨.inl ⟨.bool true, .bool true, [], rfl, fun _ => rfl, .bool true, Att.post_true l _, fun _ => ⟨List.Pairwise.nil, fun _ hm => (nomatch hm)⟩⟩, h2, h3, h4⟩
/-- the goal that k_head leaves, from the law's promise: a script of at most n ints of a claim's size -/
theorem walk_ofB {l : OpenLaw} {n k : Nat} {q : Program} {loose : List Str} {XP : (Str → Option Value) → Heap → Prop} {YP : World → Heap → Prop} {d : DefRec} {K : Params → Frag} {sp : Frag → Sp} {x : Str}
    (hn : l.most = some n) (hn2 : n ≤ sizeLine) (hdf : d.params.defaults = []) (hr : Room k callerA)
    (hY : ∀ (w : World) (h : Heap), YP w h → (K w.params).In h)
    (F : ∀ (w : World) (mg : Str → Option Value) (fa : Addr) (h : Heap), (K w.params).In h → h.Ns mainGlobals mg → mg d.name = some (.ref fa) →
      ∃ fd : FuncData, (∀ (s : Shared) (u : Value), BindsTo s fd ⟨[u], []⟩ [(x, u)]) ∧
        ∀ base : Heap, (K w.params).In base → base.Ns mainGlobals mg → FnOk l.prog w (K w.params) mg base CX0 k fa fd [x] (sp (K w.params)))
    (hsp : ∀ (K : Frag) (H : Hp) (a : Addr) (ns : List Int), ns.length ≤ n → (∀ x ∈ ns, Sized x) → SqL K H a (ns.map V.int) → sp K [.ref a] H (fun v _ => v = .bl true) fun _ _ _ => False) :
    WalkO q loose XP YP l.row.toRowW d [] (fun f vs => PySem.call f vs) := by
  refine attach_callB hn hdf fun w s₀ s₁ mg mb fa o pm cd doc a vs ns G Y ho hd hcd hmg hobj hints hlen hsz hg => ?_
  have KX := hY w _ Y
  obtain ⟨fd, hb, hF⟩ := F w mg fa _ KX G.T.g hmg
  exact law_call KX G.T.g G.T.b G.T.builtins G.T.nolimit hg hobj hints (Nat.le_trans hlen hn2) hr hF hb (fun H hO hS => hsp (K w.params) H a ns hlen hsz hS) fun H e s' z => z
/-- what law(script) promises -/
noncomputable def spLaw (K : Frag) : Sp := fun vs H Q _ => ∃ (a : Addr) (ns : List Int), vs = [.ref a] ∧ SqL K H a (ns.map V.int) ∧ ns.length ≤ 63 ∧ (∀ x ∈ ns, Sized x) ∧ ∀ H', Q (.bl true) H'
end Fb

/-! Lines and reckonings, in plain Lean: signs of a line, trees with their brackets, which of them are bound by ranks and sides. -/
namespace Fb
open PySem

/-! ### a line's signs -/
inductive Tok where
  | word (w : List Nat)
  | figs (w : List Nat)
  | ch (c : Nat)
  deriving DecidableEq
noncomputable def isLet (c : Nat) : Bool := decide (97 ≤ c ∧ c ≤ 122)
noncomputable def isFig (c : Nat) : Bool := decide (48 ≤ c ∧ c ≤ 57)
noncomputable def clean (c : Nat) : Bool := !isLet c && !isFig c
noncomputable def addLet (c : Nat) : List Tok → List Tok
  | .word w :: r => .word (c :: w) :: r
  | ts => .word [c] :: ts
noncomputable def addFig (c : Nat) : List Tok → List Tok
  | .figs w :: r => .figs (c :: w) :: r
  | ts => .figs [c] :: ts
noncomputable def push (c : Nat) (ts : List Tok) : List Tok := if isLet c then addLet c ts else if isFig c then addFig c ts else .ch c :: ts
/-- with the blanks -/
noncomputable def lex0 : List Nat → List Tok
  | [] => []
  | c :: r => push c (lex0 r)
noncomputable def noBlank (t : Tok) : Bool := decide (t ≠ .ch 32)
noncomputable def lex (x : List Nat) : List Tok := (lex0 x).filter noBlank

theorem push_clean {c : Nat} (h : clean c = true) (ts : List Tok) : push c ts = .ch c :: ts := by
  unfold clean at h
  simp only [Bool.and_eq_true, Bool.not_eq_true'] at h
  unfold push
  rw [h.1, h.2]; rfl
theorem lex0_clean {c : Nat} (h : clean c = true) (x : List Nat) : lex0 (c :: x) = .ch c :: lex0 x := push_clean h _
theorem addLet_ne (c : Nat) (ts : List Tok) : ∃ w r, addLet c ts = .word w :: r := by
  cases ts with
  | nil => exact ⟨_, _, rfl⟩
  | cons t r => cases t <;> exact ⟨_, _, rfl⟩
theorem addFig_ne (c : Nat) (ts : List Tok) : ∃ w r, addFig c ts = .figs w :: r := by
  cases ts with
  | nil => exact ⟨_, _, rfl⟩
  | cons t r => cases t <;> exact ⟨_, _, rfl⟩
theorem push_ne (c : Nat) (ts : List Tok) : push c ts ≠ [] := by
  unfold push
  split
  · obtain ⟨w, r, e⟩ := addLet_ne c ts; rw [e]; simp
  · split
    · obtain ⟨w, r, e⟩ := addFig_ne c ts; rw [e]; simp
    · simp
theorem push_app {c : Nat} {A B : List Tok} (h : A ≠ []) : push c (A ++ B) = push c A ++ B := by
  cases A with
  | nil => exact absurd rfl h
  | cons t r =>
    unfold push
    split
    · cases t <;> rfl
    · split
      · cases t <;> rfl
      · rfl
/-- a list of signs that starts with neither a word nor figures -/
noncomputable def Cut : List Tok → Prop
  | .word _ :: _ => False
  | .figs _ :: _ => False
  | _ => True
theorem push_cut {c : Nat} {B : List Tok} (h : Cut B) : push c B = push c [] ++ B := by
  unfold push
  split
  · cases B with
    | nil => rfl
    | cons t r => cases t with
      | word w => exact h.elim
      | figs w => exact h.elim
      | ch c' => rfl
  · split
    · cases B with
      | nil => rfl
      | cons t r => cases t with
        | word w => exact h.elim
        | figs w => exact h.elim
        | ch c' => rfl
    · rfl
noncomputable def startsClean : List Nat → Prop
  | [] => True
  | c :: _ => clean c = true
theorem cut_of {y : List Nat} (h : startsClean y) : Cut (lex0 y) := by
  cases y with
  | nil => exact True.intro
  | cons c r => rw [lex0_clean h]; exact True.intro
theorem lex0_ne {c : Nat} {x : List Nat} : lex0 (c :: x) ≠ [] := push_ne _ _
theorem lex0_appL {y : List Nat} (h : startsClean y) : ∀ x : List Nat, lex0 (x ++ y) = lex0 x ++ lex0 y
  | [] => rfl
  | [c] => push_cut (cut_of h)
  | c :: d :: r => by
    show push c (lex0 ((d :: r) ++ y)) = push c (lex0 (d :: r)) ++ lex0 y
    rw [lex0_appL h (d :: r), push_app lex0_ne]
theorem lex0_appR {c : Nat} (h : clean c = true) (y : List Nat) : ∀ x : List Nat, lex0 (x ++ c :: y) = lex0 x ++ .ch c :: lex0 y := fun x => by
  have := lex0_appL (y := c :: y) (show startsClean (c :: y) from h) x
  rw [this, lex0_clean h]
/-- a blank between -/
theorem lex_blank (x y : List Nat) : lex (x ++ 32 :: y) = lex x ++ lex y := by
  unfold lex
  rw [lex0_appR (by decide), List.filter_append, List.filter_cons]
  rfl
/-- a sign between that is no blank -/
theorem lex_ch {c : Nat} (h : clean c = true) (hb : c ≠ 32) (x y : List Nat) : lex (x ++ c :: y) = lex x ++ .ch c :: lex y := by
  unfold lex
  rw [lex0_appR h, List.filter_append, List.filter_cons, if_pos]
  simpa [noBlank] using hb
theorem lex0_letters : ∀ {w : List Nat}, (∀ c ∈ w, isLet c = true) → w ≠ [] → lex0 w = [.word w]
  | [c], h, _ => by
    have : isLet c = true := h c (by simp)
    show push c [] = _
    unfold push; rw [if_pos this]; rfl
  | c :: d :: r, h, _ => by
    show push c (lex0 (d :: r)) = _
    rw [lex0_letters (fun e he => h e (List.mem_cons_of_mem _ he)) (by simp)]
    have : isLet c = true := h c (by simp)
    unfold push; rw [if_pos this]; rfl
theorem let_not_fig {c : Nat} (h : isFig c = true) : isLet c = false := by
  unfold isFig at h; unfold isLet
  simp only [decide_eq_true_eq] at h
  simp; omega
theorem lex0_figs : ∀ {w : List Nat}, (∀ c ∈ w, isFig c = true) → w ≠ [] → lex0 w = [.figs w]
  | [c], h, _ => by
    have : isFig c = true := h c (by simp)
    show push c [] = _
    unfold push; rw [if_neg (by rw [let_not_fig this]; decide), if_pos this]; rfl
  | c :: d :: r, h, _ => by
    show push c (lex0 (d :: r)) = _
    rw [lex0_figs (fun e he => h e (List.mem_cons_of_mem _ he)) (by simp)]
    have : isFig c = true := h c (by simp)
    unfold push; rw [if_neg (by rw [let_not_fig this]; decide), if_pos this]; rfl
theorem lex_letters {w : List Nat} (h : ∀ c ∈ w, isLet c = true) (hn : w ≠ []) : lex w = [.word w] := by unfold lex; rw [lex0_letters h hn]; rfl
theorem lex_figs {w : List Nat} (h : ∀ c ∈ w, isFig c = true) (hn : w ≠ []) : lex w = [.figs w] := by unfold lex; rw [lex0_figs h hn]; rfl

/-! ### the figures of a number -/
noncomputable def digs (n : Nat) : List Nat := if h : n < 10 then [48 + n] else digs (n / 10) ++ [48 + n % 10]
  termination_by n
  decreasing_by omega
theorem digs_fig : ∀ (n : Nat), ∀ c ∈ digs n, isFig c = true := by
  intro n
  induction n using digs.induct with
  | case1 n h => intro c hc; rw [digs, dif_pos h] at hc; simp at hc; unfold isFig; simp; omega
  | case2 n h ih =>
    intro c hc
    rw [digs, dif_neg h] at hc
    rcases List.mem_append.mp hc with z | z
    · exact ih c z
    · simp at z; unfold isFig; simp; omega
theorem digs_ne (n : Nat) : digs n ≠ [] := by
  rw [digs]; split <;> simp
noncomputable def figVal (w : List Nat) : Nat := w.foldl (fun a c => 10 * a + (c - 48)) 0
theorem figVal_digs (n : Nat) : figVal (digs n) = n := by
  induction n using digs.induct with
  | case1 n h => rw [digs, dif_pos h]; unfold figVal; simp
  | case2 n h ih =>
    rw [digs, dif_neg h]
    unfold figVal at ih ⊢
    rw [List.foldl_append, ih]
    simp; omega
theorem digs_inj {m n : Nat} (h : digs m = digs n) : m = n := by rw [← figVal_digs m, ← figVal_digs n, h]
/-- no nought ahead -/
theorem digs_head : ∀ (n : Nat), n ≠ 0 → (digs n).head? ≠ some 48 := by
  intro n
  induction n using digs.induct with
  | case1 n h => intro h0; rw [digs, dif_pos h]; simp; omega
  | case2 n h ih =>
    intro h0
    have := ih (by omega)
    rw [digs, dif_neg h]
    cases e : digs (n / 10) with
    | nil => exact absurd e (digs_ne _)
    | cons c r => rw [e] at this; exact this

/-! ### reckonings -/
inductive Rek where
  | num (n : Nat)
  | name (s : Str)
  | node (sg : Str) (l r : Rek)
  deriving DecidableEq
/-- how many signs -/
noncomputable def Rek.size : Rek → Nat
  | .num _ => 0
  | .name _ => 0
  | .node _ l r => l.size + r.size + 1

/-! ### trees with their brackets -/
inductive BT where
  | num (n : Nat)
  | name (w : Str)
  | br (b : BT)
  | node (sg : Str) (l r : BT)
  deriving DecidableEq
noncomputable def sgCh (sg : Str) : Nat := sg.cps.toList.headD 0
noncomputable def BT.flat : BT → List Tok
  | .num n => [.figs (digs n)]
  | .name w => [.word w.cps.toList]
  | .br b => .ch 40 :: (b.flat ++ [.ch 41])
  | .node sg l r => l.flat ++ .ch (sgCh sg) :: r.flat
noncomputable def rankOf (rs : List Row) (sg : Str) : Int := ((rs.find? fun r => r.1 == sg).map (·.2.1)).getD 0
noncomputable def sideOf (rs : List Row) (sg : Str) : Str := ((rs.find? fun r => r.1 == sg).map (·.2.2)).getD ""
noncomputable def signsOf (rs : List Row) : List Str := rs.map (·.1)
/-- the sign at a tree's top, where no bracket stands about it -/
noncomputable def BT.top : BT → Option Str
  | .node sg _ _ => some sg
  | _ => none
/-- may a part with this top stand there bare -/
noncomputable def bare (rs : List Row) (sg side : Str) : Option Str → Prop
  | none => True
  | some s => rankOf rs sg < rankOf rs s ∨ (rankOf rs sg = rankOf rs s ∧ sideOf rs sg = side)
noncomputable def WB (rs : List Row) : BT → Prop
  | .num _ => True
  | .name w => w.cps.toList ≠ [] ∧ ∀ c ∈ w.cps.toList, isLet c = true
  | .br b => WB rs b
  | .node sg l r => sg ∈ signsOf rs ∧ WB rs l ∧ WB rs r ∧ bare rs sg "left" l.top ∧ bare rs sg "right" r.top
noncomputable def BT.erase : BT → Rek
  | .num n => .num n
  | .name w => .name w
  | .br b => b.erase
  | .node sg l r => .node sg l.erase r.erase
/-- what a line is read to -/
noncomputable def Reads (rs : List Row) (x : List Nat) (t : Rek) : Prop := ∃ b : BT, WB rs b ∧ b.flat = lex x ∧ b.erase = t

/-! ### brackets that are enough -/
noncomputable def Rek.top : Rek → Option Str
  | .node sg _ _ => some sg
  | _ => none
/-! ### no bracket too many -/
noncomputable def BT.pairs : BT → Nat
  | .num _ => 0
  | .name _ => 0
  | .br b => b.pairs + 1
  | .node _ l r => l.pairs + r.pairs
/-- a tree without a bracket about it has the top of what it is read to -/
theorem top_or_br : ∀ b : BT, b.top = b.erase.top ∨ ∃ b', b = .br b'
  | .num _ => .inl rfl
  | .name _ => .inl rfl
  | .br b => .inr ⟨b, rfl⟩
  | .node _ _ _ => .inl rfl
/-- brackets that are opened -/
noncomputable def opens (ts : List Tok) : Nat := ts.countP fun t => t == .ch 40
theorem opens_app (a b : List Tok) : opens (a ++ b) = opens a + opens b := List.countP_append
theorem sg_not_br {rs : List Row} (hf : Fine rs) {sg : Str} (h : sg ∈ signsOf rs) : sgCh sg ≠ 40 ∧ sgCh sg ≠ 41 ∧ sgCh sg ≠ 32 ∧ clean (sgCh sg) = true ∧ sg.cps.toList = [sgCh sg] := by
  obtain ⟨r, hr, rfl⟩ := List.mem_map.mp h
  have m := hf.sign r hr
  have all : ∀ s ∈ signMenu, sgCh s ≠ 40 ∧ sgCh s ≠ 41 ∧ sgCh s ≠ 32 ∧ clean (sgCh s) = true ∧ s.cps.toList = [sgCh s] := by decide +kernel
  exact all _ m
theorem flat_opens {rs : List Row} (hf : Fine rs) : ∀ {b : BT}, WB rs b → opens b.flat = b.pairs
  | .num _, _ => rfl
  | .name _, _ => rfl
  | .br b, h => by
    show opens (.ch 40 :: (b.flat ++ [.ch 41])) = b.pairs + 1
    have e : opens (.ch 40 :: (b.flat ++ [.ch 41])) = opens [.ch 40] + (opens b.flat + opens [.ch 41]) := by
      rw [← opens_app, ← opens_app]; rfl
    rw [e, flat_opens hf (b := b) h]
    show 1 + (b.pairs + 0) = _
    omega
  | .node sg l r, ⟨h1, h2, h3, _, _⟩ => by
    show opens (l.flat ++ .ch (sgCh sg) :: r.flat) = _
    have e : opens (l.flat ++ .ch (sgCh sg) :: r.flat) = opens l.flat + (opens [.ch (sgCh sg)] + opens r.flat) := by
      rw [← opens_app, ← opens_app]; rfl
    have e2 : opens [.ch (sgCh sg)] = 0 := by
      have := (sg_not_br hf h1).1
      show List.countP _ [_] = 0
      rw [List.countP_cons]
      simp [this]
    rw [e, e2, flat_opens hf h2, flat_opens hf h3]
    show _ = l.pairs + r.pairs
    omega
end Fb

namespace Fb
open PySem

/-! ### a line of a tree -/
theorem lex_nil : lex [] = [] := rfl
/-! ### parts and signs in turn, with brackets that belong together -/
noncomputable def leafB : Tok → Option BT
  | .word w => if w ≠ [] ∧ ∀ c ∈ w, isLet c = true then some (.name ⟨w.toArray⟩) else none
  | .figs w => if digs (figVal w) = w then some (.num (figVal w)) else none
  | .ch _ => none
noncomputable def isSign (rs : List Row) (c : Nat) : Bool := rs.any fun r => sgCh r.1 == c
theorem isSign_of {rs : List Row} {sg : Str} (h : sg ∈ signsOf rs) : isSign rs (sgCh sg) = true := by
  obtain ⟨r, hr, rfl⟩ := List.mem_map.mp h
  exact List.any_eq_true.mpr ⟨r, hr, by simp⟩
/-! ### signs in their order -/
noncomputable def BT.seq : BT → List Str
  | .node sg l r => l.seq ++ sg :: r.seq
  | _ => []
/-- a sign may stand behind these: a rank of the side none comes again only behind a lesser one -/
noncomputable def Free (rs : List Row) (S : List Str) (sg : Str) : Prop := ∀ A s B, S = A ++ s :: B → sideOf rs s = "none" → rankOf rs s = rankOf rs sg → ∃ m ∈ B, rankOf rs m < rankOf rs s
theorem seq_top {b : BT} (h : b.top = none) : b.seq = [] := by cases b <;> first | rfl | cases h
theorem row_of {rs : List Row} {sg : Str} (h : sg ∈ signsOf rs) : ∃ r ∈ rs, r.1 = sg ∧ rankOf rs sg = r.2.1 ∧ sideOf rs sg = r.2.2 := by
  obtain ⟨q, hq, e⟩ := List.mem_map.mp h
  have : (rs.find? fun r => r.1 == sg).isSome := List.find?_isSome.mpr ⟨q, hq, by simp [e]⟩
  obtain ⟨r, hr⟩ := Option.isSome_iff_exists.mp this
  refine ⟨r, List.mem_of_find?_eq_some hr, ?_, ?_, ?_⟩
  · have := List.find?_some hr; exact eq_of_beq this
  · unfold rankOf; rw [hr]; rfl
  · unfold sideOf; rw [hr]; rfl
theorem side_eq {rs : List Row} (hf : Fine rs) {s t : Str} (hs : s ∈ signsOf rs) (ht : t ∈ signsOf rs) (h : rankOf rs s = rankOf rs t) : sideOf rs s = sideOf rs t := by
  obtain ⟨r, hr, _, e1, e2⟩ := row_of hs
  obtain ⟨q, hq, _, e3, e4⟩ := row_of ht
  rw [e2, e4]
  exact hf.one r hr q hq (by rw [← e1, ← e3]; exact h)
theorem side_mem {rs : List Row} (hf : Fine rs) {s : Str} (hs : s ∈ signsOf rs) : sideOf rs s = "left" ∨ sideOf rs s = "right" ∨ sideOf rs s = "none" := by
  obtain ⟨r, hr, _, _, e2⟩ := row_of hs
  have := hf.side r hr
  rw [e2]
  simpa [sideMenu] using this
theorem seq_signs {rs : List Row} : ∀ {b : BT}, WB rs b → ∀ s ∈ b.seq, s ∈ signsOf rs
  | .num _, _, s, h => by cases h
  | .name _, _, s, h => by cases h
  | .br _, _, s, h => by cases h
  | .node sg l r, ⟨h1, h2, h3, _, _⟩, s, h => by
    rcases List.mem_append.mp h with z | z
    · exact seq_signs h2 s z
    · rcases List.mem_cons.mp z with rfl | z
      · exact h1
      · exact seq_signs h3 s z
/-- a part's signs are of no lesser rank than the part's top -/
theorem seq_ge {rs : List Row} : ∀ {b : BT}, WB rs b → ∀ sg, b.top = some sg → ∀ s ∈ b.seq, rankOf rs sg ≤ rankOf rs s
  | .node sg l r, ⟨h1, h2, h3, h4, h5⟩, _, rfl, s, h => by
    have side : ∀ {sd : Str} {p : BT}, WB rs p → (∀ sg, p.top = some sg → ∀ s ∈ p.seq, rankOf rs sg ≤ rankOf rs s) → bare rs sg sd p.top → ∀ s ∈ p.seq, rankOf rs sg ≤ rankOf rs s := by
      intro sd p hp ih hb s hs
      cases e : p.top with
      | none => rw [seq_top e] at hs; cases hs
      | some q =>
        have := ih q e s hs
        rw [e] at hb
        rcases hb with z | z <;> omega
    rcases List.mem_append.mp h with z | z
    · exact side h2 (fun sg => seq_ge h2 sg) h4 s z
    · rcases List.mem_cons.mp z with rfl | z
      · exact Int.le_refl _
      · exact side h3 (fun sg => seq_ge h3 sg) h5 s z
/-- where the side isn't the part's, its signs are of greater rank -/
theorem seq_gt {rs : List Row} {sg sd : Str} {p : BT} (hp : WB rs p) (hb : bare rs sg sd p.top) (hs : sideOf rs sg ≠ sd) : ∀ s ∈ p.seq, rankOf rs sg < rankOf rs s := by
  intro s h
  cases e : p.top with
  | none => rw [seq_top e] at h; cases h
  | some q =>
    have := seq_ge hp q e s h
    rw [e] at hb
    rcases hb with z | z
    · omega
    · exact absurd z.2 hs
theorem ins {rs : List Row} (hf : Fine rs) {sg : Str} (hsg : sg ∈ signsOf rs) {x : BT} (hx : WB rs x) (hxt : x.top = none) : ∀ {b : BT}, WB rs b → Free rs b.seq sg → ∃ b' : BT, WB rs b' ∧ b'.flat = b.flat ++ .ch (sgCh sg) :: x.flat ∧ b'.seq = b.seq ++ [sg] ∧ b'.pairs = b.pairs + x.pairs ∧ (b'.top = some sg ∨ b'.top = b.top) := by
  have hnew : ∀ {b : BT}, WB rs b → bare rs sg "left" b.top → ∃ b' : BT, WB rs b' ∧ b'.flat = b.flat ++ .ch (sgCh sg) :: x.flat ∧ b'.seq = b.seq ++ [sg] ∧ b'.pairs = b.pairs + x.pairs ∧ (b'.top = some sg ∨ b'.top = b.top) := fun {b} hb hl => by
    refine ⟨.node sg b x, ⟨hsg, hb, hx, hl, ?_⟩, rfl, ?_, rfl, .inl rfl⟩
    · rw [hxt]; exact True.intro
    · show b.seq ++ sg :: x.seq = _
      rw [seq_top hxt]
  intro b
  induction b with
  | num n => intro hb _; exact hnew hb True.intro
  | name w => intro hb _; exact hnew hb True.intro
  | br b _ => intro hb _; exact hnew hb True.intro
  | node s l r _ ihr =>
    intro hb hfree
    obtain ⟨h1, h2, h3, h4, h5⟩ := id hb
    by_cases c : rankOf rs s < rankOf rs sg ∨ (rankOf rs s = rankOf rs sg ∧ sideOf rs s = "right")
    · obtain ⟨r', w', f', s', p', t'⟩ := ihr h3 (fun A q B e hn hq => hfree (l.seq ++ s :: A) q B (by show l.seq ++ s :: r.seq = _; rw [e]; simp) hn hq)
      refine ⟨.node s l r', ⟨h1, h2, w', h4, ?_⟩, ?_, ?_, ?_, .inr rfl⟩
      · rcases t' with t' | t'
        · rw [t']; exact c
        · rw [t']; exact h5
      · show l.flat ++ .ch (sgCh s) :: r'.flat = (l.flat ++ .ch (sgCh s) :: r.flat) ++ _
        rw [f']; simp
      · show l.seq ++ s :: r'.seq = (l.seq ++ s :: r.seq) ++ _
        rw [s']; simp
      · show l.pairs + r'.pairs = l.pairs + r.pairs + x.pairs
        rw [p']; omega
    · refine hnew hb ?_
      by_cases e : rankOf rs s = rankOf rs sg
      · refine .inr ⟨e.symm, ?_⟩
        have hs := side_eq hf h1 hsg e
        rw [← hs]
        rcases side_mem hf h1 with z | z | z
        · exact z
        · exact absurd (.inr ⟨e, z⟩) c
        · exfalso
          obtain ⟨m, hm, hlt⟩ := hfree l.seq s r.seq rfl z e
          have := seq_gt h3 h5 (by rw [z]; decide) m hm
          omega
      · refine .inl ?_
        have : ¬ rankOf rs s < rankOf rs sg := fun z => c (.inl z)
        omega
/-- in a bound tree every sign may stand where it stands -/
theorem free_of {rs : List Row} (hf : Fine rs) : ∀ {b : BT}, WB rs b → ∀ A sg C, b.seq = A ++ sg :: C → Free rs A sg
  | .num _, _, A, sg, C, e => by have := congrArg List.length e; simp [BT.seq] at this
  | .name _, _, A, sg, C, e => by have := congrArg List.length e; simp [BT.seq] at this
  | .br _, _, A, sg, C, e => by have := congrArg List.length e; simp [BT.seq] at this
  | .node s l r, ⟨h1, h2, h3, h4, h5⟩, A, sg, C, e => by
    have e' : l.seq ++ s :: r.seq = A ++ sg :: C := e
    have allS := seq_signs (rs := rs) (b := .node s l r) ⟨h1, h2, h3, h4, h5⟩
    rcases List.append_eq_append_iff.mp e' with ⟨A', e1, e2⟩ | ⟨C', e1, e2⟩
    · -- A = l.seq ++ A'
      cases A' with
      | nil =>
        -- the sign is the top
        simp only [List.nil_append, List.cons.injEq] at e2
        obtain ⟨rfl, rfl⟩ := e2
        rw [List.append_nil] at e1
        subst e1
        intro P q B eq hn hr
        exfalso
        have mq : q ∈ l.seq := by rw [eq]; simp
        have sq := seq_signs h2 q mq
        have hs := side_eq hf h1 sq hr.symm
        have := seq_gt h2 h4 (by rw [hs, hn]; decide) q mq
        omega
      | cons a A' =>
        simp only [List.cons_append, List.cons.injEq] at e2
        obtain ⟨rfl, e2⟩ := e2
        have ih := free_of hf h3 A' sg C e2
        intro P q B eq hn hr
        rw [e1] at eq
        -- where q stands
        rcases List.append_eq_append_iff.mp eq with ⟨P', p1, p2⟩ | ⟨B', p1, p2⟩
        · cases P' with
          | nil =>
            simp only [List.nil_append, List.cons.injEq] at p2
            obtain ⟨rfl, rfl⟩ := p2
            -- q is the top, the sign stands in the right part
            exfalso
            have msg : sg ∈ r.seq := by rw [e2]; simp
            have := seq_gt h3 h5 (by rw [hn]; decide) sg msg
            omega
          | cons p P' =>
            simp only [List.cons_append, List.cons.injEq] at p2
            obtain ⟨rfl, p2⟩ := p2
            exact ih P' q B p2 hn hr
        · -- q stands in the left part
          cases B' with
          | nil =>
            simp only [List.nil_append, List.cons.injEq] at p2
            obtain ⟨rfl, rfl⟩ := p2
            exfalso
            have msg : sg ∈ r.seq := by rw [e2]; simp
            have := seq_gt h3 h5 (by rw [hn]; decide) sg msg
            omega
          | cons b B' =>
            simp only [List.cons_append, List.cons.injEq] at p2
            obtain ⟨rfl, rfl⟩ := p2
            have mq : q ∈ l.seq := by rw [p1]; simp
            have sq := seq_signs h2 q mq
            refine ⟨s, by simp, ?_⟩
            rcases side_mem hf h1 with z | z | z
            · -- the side left: q is of greater rank, or of the same one, whose side is none
              by_cases e : rankOf rs s = rankOf rs q
              · have := side_eq hf h1 sq e; rw [z, hn] at this; exact absurd this (by decide)
              · have : rankOf rs s ≤ rankOf rs q := by
                  cases et : l.top with
                  | none => rw [seq_top et] at mq; cases mq
                  | some t =>
                    have h6 := seq_ge h2 t et q mq
                    have h7 := h4
                    rw [et] at h7
                    rcases h7 with z | z <;> omega
                omega
            · exact seq_gt h2 h4 (by rw [z]; decide) q mq
            · exact seq_gt h2 h4 (by rw [z]; decide) q mq
    · -- l.seq = A ++ C'
      cases C' with
      | nil =>
        simp only [List.nil_append, List.cons.injEq] at e2
        obtain ⟨rfl, rfl⟩ := e2
        rw [List.append_nil] at e1
        subst e1
        intro P q B eq hn hr
        exfalso
        have mq : q ∈ l.seq := by rw [eq]; simp
        have sq := seq_signs h2 q mq
        have hs := side_eq hf h1 sq hr.symm
        have := seq_gt h2 h4 (by rw [hs, hn]; decide) q mq
        omega
      | cons c C' =>
        simp only [List.cons_append, List.cons.injEq] at e2
        obtain ⟨rfl, rfl⟩ := e2
        exact free_of hf h2 A sg C' e1
end Fb

namespace Fb
open PySem
theorem leafB_ok {rs : List Row} {t : Tok} {x : BT} (h : leafB t = some x) : WB rs x ∧ x.top = none ∧ x.flat = [t] ∧ x.pairs = 0 := by
  cases t with
  | word w =>
    by_cases c : w ≠ [] ∧ ∀ c ∈ w, isLet c = true
    · have e : leafB (.word w) = some (.name ⟨w.toArray⟩) := if_pos c
      rw [e] at h; cases h
      exact ⟨c, rfl, rfl, rfl⟩
    · have e : leafB (.word w) = none := if_neg c
      rw [e] at h; cases h
  | figs w =>
    by_cases c : digs (figVal w) = w
    · have e : leafB (.figs w) = some (.num (figVal w)) := if_pos c
      rw [e] at h; cases h
      exact ⟨True.intro, rfl, by show [Tok.figs (digs (figVal w))] = _; rw [c], rfl⟩
    · have e : leafB (.figs w) = none := if_neg c
      rw [e] at h; cases h
  | ch c => cases h
theorem isSign_ex {rs : List Row} {c : Nat} (h : isSign rs c = true) : ∃ sg ∈ signsOf rs, sgCh sg = c := by
  obtain ⟨r, hr, e⟩ := List.any_eq_true.mp h
  exact ⟨r.1, List.mem_map.mpr ⟨r, hr, rfl⟩, eq_of_beq e⟩
/-! ### lines without brackets -/
/-- somewhere a rank of the side none comes again too early -/
noncomputable def Clash (rs : List Row) (S : List Str) : Prop := ∃ A t C, S = A ++ t :: C ∧ ¬ Free rs A t
theorem chain {rs : List Row} (hf : Fine rs) : ∀ (ops : List (Str × BT)) {b : BT}, WB rs b → (∀ o ∈ ops, o.1 ∈ signsOf rs ∧ WB rs o.2 ∧ o.2.top = none) → ¬ Clash rs (b.seq ++ ops.map (·.1)) →
    ∃ b' : BT, WB rs b' ∧ b'.flat = b.flat ++ (ops.map fun o => .ch (sgCh o.1) :: o.2.flat).flatten ∧ b'.pairs = b.pairs + (ops.map fun o => o.2.pairs).sum
  | [], b, hb, _, _ => ⟨b, hb, by simp, by simp⟩
  | (sg, x) :: r, b, hb, ho, hc => by
    obtain ⟨o1, o2, o3⟩ := ho (sg, x) (by simp)
    have hfree : Free rs b.seq sg := Classical.byContradiction fun z => hc ⟨b.seq, sg, r.map (·.1), by simp, z⟩
    obtain ⟨b1, h1, h2, h3, h4, _⟩ := ins hf o1 o2 o3 hb hfree
    obtain ⟨b', k1, k2, k3⟩ := chain hf r h1 (fun o h => ho o (List.mem_cons_of_mem _ h)) (by rw [h3]; simpa using hc)
    refine ⟨b', k1, ?_, ?_⟩
    · rw [k2, h2]; simp
    · rw [k3, h4]; simp; omega
noncomputable def chOf : Tok → Option Nat
  | .ch c => some c
  | _ => none
theorem bare_seq : ∀ {b : BT}, b.pairs = 0 → b.flat.filterMap chOf = b.seq.map sgCh
  | .num _, _ => rfl
  | .name _, _ => rfl
  | .br b, h => by simp [BT.pairs] at h
  | .node sg l r, h => by
    have h' : l.pairs + r.pairs = 0 := h
    show (l.flat ++ .ch (sgCh sg) :: r.flat).filterMap chOf = (l.seq ++ sg :: r.seq).map sgCh
    rw [List.filterMap_append, bare_seq (b := l) (by omega), List.filterMap_cons]
    show _ ++ sgCh sg :: r.flat.filterMap chOf = _
    rw [bare_seq (b := r) (by omega), List.map_append]; rfl
theorem sgCh_inj {rs : List Row} (hf : Fine rs) {s t : Str} (hs : s ∈ signsOf rs) (ht : t ∈ signsOf rs) (h : sgCh s = sgCh t) : s = t := by
  have a := (sg_not_br hf hs).2.2.2.2
  have b := (sg_not_br hf ht).2.2.2.2
  cases s; cases t
  rename_i p q
  have : p.toList = q.toList := by
    have a' : p.toList = _ := a
    have b' : q.toList = _ := b
    rw [a', b', h]
  rw [show p = q from Array.toList_inj.mp this]
theorem map_sg_inj {rs : List Row} (hf : Fine rs) : ∀ {S T : List Str}, (∀ s ∈ S, s ∈ signsOf rs) → (∀ s ∈ T, s ∈ signsOf rs) → S.map sgCh = T.map sgCh → S = T
  | [], [], _, _, _ => rfl
  | [], _ :: _, _, _, e => by simp at e
  | _ :: _, [], _, _, e => by simp at e
  | s :: S, t :: T, h1, h2, e => by
    simp only [List.map_cons, List.cons.injEq] at e
    rw [sgCh_inj hf (h1 s (by simp)) (h2 t (by simp)) e.1, map_sg_inj hf (fun x hx => h1 x (List.mem_cons_of_mem _ hx)) (fun x hx => h2 x (List.mem_cons_of_mem _ hx)) e.2]
/-- the parts of a reckoning in their order -/
noncomputable def Rek.toks : Rek → List Tok
  | .num n => [.figs (digs n)]
  | .name w => [.word w.cps.toList]
  | .node sg l r => l.toks ++ .ch (sgCh sg) :: r.toks
theorem bare_toks : ∀ {b : BT}, b.pairs = 0 → b.flat = b.erase.toks
  | .num _, _ => rfl
  | .name _, _ => rfl
  | .br b, h => by simp [BT.pairs] at h
  | .node sg l r, h => by
    have h' : l.pairs + r.pairs = 0 := h
    show l.flat ++ .ch (sgCh sg) :: r.flat = l.erase.toks ++ .ch (sgCh sg) :: r.erase.toks
    rw [bare_toks (b := l) (by omega), bare_toks (b := r) (by omega)]
/-- bound without brackets -/
noncomputable def RB (rs : List Row) : Rek → Prop
  | .num _ => True
  | .name _ => True
  | .node sg l r => sg ∈ signsOf rs ∧ RB rs l ∧ RB rs r ∧ bare rs sg "left" l.top ∧ bare rs sg "right" r.top
theorem bare_RB {rs : List Row} : ∀ {b : BT}, b.pairs = 0 → WB rs b → RB rs b.erase
  | .num _, _, _ => True.intro
  | .name _, _, _ => True.intro
  | .br b, h, _ => by simp [BT.pairs] at h
  | .node sg l r, h, ⟨h1, h2, h3, h4, h5⟩ => by
    have h' : l.pairs + r.pairs = 0 := h
    have t : ∀ {p : BT}, p.pairs = 0 → p.erase.top = p.top := fun {p} hp => by
      rcases top_or_br p with e | ⟨p', rfl⟩
      · exact e.symm
      · simp [BT.pairs] at hp
    refine ⟨h1, bare_RB (b := l) (by omega) h2, bare_RB (b := r) (by omega) h3, ?_, ?_⟩
    · rw [t (by omega)]; exact h4
    · rw [t (by omega)]; exact h5
/-- a line of leaves with a sign between any two is read just where no rank of the side none comes again too early; then to its parts in their order, bound -/
theorem flat_reads {rs : List Row} (hf : Fine rs) {x : List Nat} {x0 : BT} {ops : List (Str × BT)} (h0 : WB rs x0 ∧ x0.top = none ∧ x0.pairs = 0) (ho : ∀ o ∈ ops, o.1 ∈ signsOf rs ∧ WB rs o.2 ∧ o.2.top = none ∧ o.2.pairs = 0)
    (e : lex x = x0.flat ++ (ops.map fun o => .ch (sgCh o.1) :: o.2.flat).flatten) :
    (¬ Clash rs (ops.map (·.1)) → ∃ t, Reads rs x t) ∧ (∀ t, Reads rs x t → ¬ Clash rs (ops.map (·.1)) ∧ RB rs t ∧ t.toks = lex x) := by
  have z0 : ∀ {p : BT}, WB rs p → p.pairs = 0 → opens p.flat = 0 := fun hp h => by rw [flat_opens hf hp, h]
  have fm0 : ∀ {p : BT}, p.top = none → p.pairs = 0 → p.flat.filterMap chOf = [] := fun {p} ht h => by rw [bare_seq h, seq_top ht]; rfl
  have opn : opens (lex x) = 0 := by
    rw [e, opens_app, z0 h0.1 h0.2.2]
    have : ∀ l : List (Str × BT), (∀ o ∈ l, o.1 ∈ signsOf rs ∧ WB rs o.2 ∧ o.2.top = none ∧ o.2.pairs = 0) → opens (l.map fun o => .ch (sgCh o.1) :: o.2.flat).flatten = 0 := by
      intro l
      induction l with
      | nil => intro _; rfl
      | cons a l ih =>
        intro h
        obtain ⟨a1, a2, a3, a4⟩ := h a (by simp)
        rw [List.map_cons, List.flatten_cons, opens_app, ih fun o ho => h o (List.mem_cons_of_mem _ ho)]
        have e2 : opens (.ch (sgCh a.1) :: a.2.flat) = opens [.ch (sgCh a.1)] + opens a.2.flat := by rw [← opens_app]; rfl
        have e3 : opens [.ch (sgCh a.1)] = 0 := by
          have := (sg_not_br hf a1).1
          show List.countP _ [_] = 0
          rw [List.countP_cons]
          simp [this]
        rw [e2, e3, z0 a2 a4]
    rw [this ops ho]
  have sgn : (lex x).filterMap chOf = (ops.map (·.1)).map sgCh := by
    rw [e, List.filterMap_append, fm0 h0.2.1 h0.2.2, List.nil_append]
    have : ∀ l : List (Str × BT), (∀ o ∈ l, o.1 ∈ signsOf rs ∧ WB rs o.2 ∧ o.2.top = none ∧ o.2.pairs = 0) → (l.map fun o => Tok.ch (sgCh o.1) :: o.2.flat).flatten.filterMap chOf = (l.map (·.1)).map sgCh := by
      intro l
      induction l with
      | nil => intro _; rfl
      | cons a l ih =>
        intro h
        obtain ⟨a1, a2, a3, a4⟩ := h a (by simp)
        rw [List.map_cons, List.flatten_cons, List.filterMap_append, ih fun o ho => h o (List.mem_cons_of_mem _ ho), List.filterMap_cons]
        show (sgCh a.1 :: a.2.flat.filterMap chOf) ++ _ = _
        rw [fm0 a3 a4]; rfl
    exact this ops ho
  refine ⟨fun hc => ?_, ?_⟩
  · obtain ⟨b', h1, h2, _⟩ := chain hf ops h0.1 (fun o h => ⟨(ho o h).1, (ho o h).2.1, (ho o h).2.2.1⟩) (by rw [seq_top h0.2.1]; simpa using hc)
    exact ⟨_, b', h1, by rw [h2, e], rfl⟩
  · rintro t ⟨b, hb, fl, rfl⟩
    have pr : b.pairs = 0 := by rw [← flat_opens hf hb, fl, opn]
    refine ⟨?_, bare_RB pr hb, by rw [← bare_toks pr, fl]⟩
    rintro ⟨A, s, C, eS, hnf⟩
    have : b.seq = ops.map (·.1) := map_sg_inj hf (seq_signs hb) (fun s hs => by obtain ⟨o, h1, rfl⟩ := List.mem_map.mp hs; exact (ho o h1).1) (by rw [← bare_seq pr, fl, sgn])
    exact hnf (free_of hf hb A s C (by rw [this, eS]))
end Fb

/-! Reckonings in the heap, lists beside the empty one. -/
namespace Fb
open PySem PySem.Spec PySem.Calls PyProof.Rows L2

noncomputable def TreeAt (H : Hp) : V → Rek → Prop
  | v, .num n => v = .int n
  | v, .name s => v = .str s
  | v, .node sg l r => ∃ a vl vr, v = .ref a ∧ H a = some (.tup [.str sg, vl, vr]) ∧ TreeAt H vl l ∧ TreeAt H vr r
theorem TreeAt.keep {H H' : Hp} (k : ∀ b xs, H b = some (.tup xs) → H' b = some (.tup xs)) : ∀ {t : Rek} {v : V}, TreeAt H v t → TreeAt H' v t
  | .num _, _, h => h
  | .name _, _, h => h
  | .node _ _ _, _, ⟨a, vl, vr, e, h, hl, hr⟩ => ⟨a, vl, vr, e, k _ _ h, TreeAt.keep k hl, TreeAt.keep k hr⟩
theorem TreeAt.same {H H' : Hp} (e : Same H H') {t : Rek} {v : V} (h : TreeAt H v t) : TreeAt H' v t := h.keep fun b xs q => e b _ q
noncomputable def Rek.isNum : Rek → Bool
  | .num _ => true
  | _ => false
noncomputable def Rek.isNode : Rek → Bool
  | .node _ _ _ => true
  | _ => false
/-- the type's name -/
noncomputable def Rek.ty : Rek → String
  | .num _ => "int"
  | .name _ => "str"
  | .node _ _ _ => "tuple"
theorem TreeAt.tyOf {K : PySem.W.Frag} {H : Hp} : ∀ {t : Rek} {v : V}, TreeAt H v t → TyOf K H v (.type t.ty)
  | .num n, _, h => by cases h; exact .int _
  | .name s, _, h => by cases h; exact .str _
  | .node _ _ _, _, ⟨a, vl, vr, e, h, _⟩ => by subst e; exact .tup h
/-- what isinstance tells of reckonings -/
structure Kits (K : PySem.W.Frag) : Prop where
  ii : PySem.W.kitOne K (.type "int") (.type "int") = some true
  ib : PySem.W.kitOne K (.type "int") (.type "bool") = some false
  is : PySem.W.kitOne K (.type "int") (.type "str") = some false
  it : PySem.W.kitOne K (.type "int") (.type "tuple") = some false
  si : PySem.W.kitOne K (.type "str") (.type "int") = some false
  ss : PySem.W.kitOne K (.type "str") (.type "str") = some true
  st : PySem.W.kitOne K (.type "str") (.type "tuple") = some false
  ti : PySem.W.kitOne K (.type "tuple") (.type "int") = some false
  ts : PySem.W.kitOne K (.type "tuple") (.type "str") = some false
  tt : PySem.W.kitOne K (.type "tuple") (.type "tuple") = some true
theorem Kits.tup {K : PySem.W.Frag} (k : Kits K) : ∀ t : Rek, PySem.W.kitOne K (.type t.ty) (.type "tuple") = some t.isNode
  | .num _ => k.it
  | .name _ => k.st
  | .node _ _ _ => k.tt
theorem Kits.int {K : PySem.W.Frag} (k : Kits K) : ∀ t : Rek, PySem.W.kitOne K (.type t.ty) (.type "int") = some t.isNum
  | .num _ => k.ii
  | .name _ => k.si
  | .node _ _ _ => k.ti

/-! ### xs != [], xs == [] -/
section
variable {X : Cx}
theorem isList_of {h : Heap} {a : Addr} {its : Array Value} {n : Nat} (e : h.get? a = some { cls := .type "list", data := .seq its n }) : h.IsList a its := ⟨_, e, rfl, _, rfl⟩
noncomputable def rNeNil : R2 := fun x y H Q => ∃ a b xs, x = .ref a ∧ y = .ref b ∧ H a = some (.lst xs) ∧ H b = some (.lst []) ∧ Q (.bl (!xs.isEmpty)) H
theorem op_neNil (hu : X.A.units < cLine) : OpR X (compareOp .NotEq) rNeNil := by
  intro pins s σ H x y v u Q I rx ry h
  obtain ⟨a, b, xs, rfl, rfl, ha, hb, q⟩ := h
  cases rx
  cases ry
  obtain ⟨_, its, n, r, hl, e⟩ := I.lstM ha
  obtain ⟨_, its2, n2, r2, hl2, e2⟩ := I.lstM hb
  have e0 : its2 = [] := List.eq_nil_of_length_eq_zero (by rw [← hl2]; rfl)
  subst e0
  cases xs with
  | nil =>
    have e1 : its = [] := List.eq_nil_of_length_eq_zero (by rw [← hl]; rfl)
    subst e1
    exact SeqAt.RcNeAt.lists (e := fun _ => true) (isList_of e) (isList_of e2) rfl hu (fun j h1 _ => absurd h1 (by simp)) X.prog X.w X.xe _ ⟨.bl false, H, I, rfl, q⟩
  | cons x xs =>
    refine SeqAt.RcNeAt.lists_lengths (isList_of e) (isList_of e2) ?_ hu X.prog X.w X.xe _ ⟨.bl true, H, I, rfl, q⟩
    rw [List.size_toArray, ← hl]
    simp
end
theorem units_of {A : Around} {k : Nat} (hr : Room k A) : A.units < cLine := hr.units0
/-- a chain of pops: the last one -/
theorem last_snoc {α : Type} (xs : List α) (x : α) : (xs ++ [x])[(xs ++ [x]).length - 1]? = some x := by simp
end Fb
namespace Fb
open PySem PySem.Spec PySem.Calls PyProof.Rows L2
theorem Pr.unsnoc {α β : Type} {R : α → β → Prop} : ∀ {xs : List α} {x : α} {ys : List β}, Paired R (xs ++ [x]) ys → ∃ ys' y, ys = ys' ++ [y] ∧ Paired R xs ys' ∧ R x y
  | [], x, _, .cons h .nil => ⟨[], _, rfl, .nil, h⟩
  | a :: r, x, _, .cons h t => by
    obtain ⟨ys', y, e, p, q⟩ := Pr.unsnoc t
    exact ⟨_ :: ys', y, by rw [e]; rfl, .cons h p, q⟩
theorem Pr.mono {α β : Type} {R S : α → β → Prop} (k : ∀ a b, R a b → S a b) : ∀ {xs : List α} {ys : List β}, Paired R xs ys → Paired S xs ys
  | _, _, .nil => .nil
  | _, _, .cons h t => .cons (k _ _ h) (Pr.mono k t)
theorem snoc_of {α : Type} : ∀ {xs : List α}, xs ≠ [] → ∃ ys y, xs = ys ++ [y]
  | [], h => absurd rfl h
  | x :: r, _ => by
    by_cases e : r = []
    · subst e; exact ⟨[], x, rfl⟩
    · obtain ⟨ys, y, rfl⟩ := snoc_of e
      exact ⟨x :: ys, y, rfl⟩
theorem take_snoc' {α : Type} {xs : List α} {i : Nat} {x : α} (h : xs[i]? = some x) : xs.take (i + 1) = xs.take i ++ [x] := by
  rw [List.take_add_one, h]; rfl
end Fb
namespace Fb
open PySem PySem.Spec PySem.Calls PyProof.Rows L2
/-! ### leaves -/
noncomputable def Letters (x : Str) : Prop := ∀ c ∈ x.cps.toList, 97 ≤ c ∧ c ≤ 122
noncomputable def LeafOk : Rek → Prop
  | .num n => n < 10 ^ 61
  | .name x => 1 ≤ x.length ∧ x.length ≤ 40 ∧ Letters x
  | .node _ _ _ => False
theorem leaf_small {n : Nat} (h : n < 200) : LeafOk (.num n) := Nat.lt_of_lt_of_le h (by decide)
noncomputable def larges (seed : Int) : List Int := [seed * 48271 % 10 ^ (9 : Int).toNat, 10 ^ (20 : Int).toNat + seed % 1000, seed * 48271 % 10 ^ (60 : Int).toNat, 10 ^ (13 : Int).toNat + seed % 10 ^ (13 : Int).toNat, 10 ^ (39 : Int).toNat + seed % 10 ^ (39 : Int).toNat]
theorem p9 : (0 : Int) < 10 ^ (9 : Int).toNat := by decide
theorem p13 : (0 : Int) < 10 ^ (13 : Int).toNat := by decide
theorem p39 : (0 : Int) < 10 ^ (39 : Int).toNat := by decide
theorem p60 : (0 : Int) < 10 ^ (60 : Int).toNat := by decide
theorem larges_ok (seed : Int) (h : 0 ≤ seed / 9 % 5 ∧ seed / 9 % 5 < 5) : 0 ≤ (larges seed).getD (seed / 9 % 5).toNat 0 ∧ LeafOk (.num ((larges seed).getD (seed / 9 % 5).toNat 0).toNat) := by
  have m : (larges seed).getD (seed / 9 % 5).toNat 0 ∈ larges seed := Fb.getD_mem (by show _ < 5; omega)
  have all : ∀ z ∈ larges seed, 0 ≤ z ∧ z < 10 ^ 61 := by
    intro z hz
    have a1 := Int.emod_nonneg (seed * 48271) (show (10 : Int) ^ 9 ≠ 0 by decide)
    have a2 := Int.emod_lt_of_pos (seed * 48271) (show (0 : Int) < 10 ^ 9 by decide)
    have b1 := Int.emod_nonneg seed (show (1000 : Int) ≠ 0 by decide)
    have b2 := Int.emod_lt_of_pos seed (show (0 : Int) < 1000 by decide)
    have c1 := Int.emod_nonneg (seed * 48271) (show (10 : Int) ^ 60 ≠ 0 by decide)
    have c2 := Int.emod_lt_of_pos (seed * 48271) (show (0 : Int) < 10 ^ 60 by decide)
    have d1 := Int.emod_nonneg seed (show (10 : Int) ^ 13 ≠ 0 by decide)
    have d2 := Int.emod_lt_of_pos seed (show (0 : Int) < 10 ^ 13 by decide)
    have e1 := Int.emod_nonneg seed (show (10 : Int) ^ 39 ≠ 0 by decide)
    have e2 := Int.emod_lt_of_pos seed (show (0 : Int) < 10 ^ 39 by decide)
    simp only [larges, List.mem_cons, List.not_mem_nil, or_false, show (9 : Int).toNat = 9 from rfl, show (20 : Int).toNat = 20 from rfl, show (60 : Int).toNat = 60 from rfl, show (13 : Int).toNat = 13 from rfl, show (39 : Int).toNat = 39 from rfl] at hz
    generalize seed * 48271 % 10 ^ 9 = A at *
    generalize seed % 1000 = B at *
    generalize seed * 48271 % 10 ^ 60 = C at *
    generalize seed % 10 ^ 13 = D at *
    generalize seed % 10 ^ 39 = E at *
    rcases hz with rfl | rfl | rfl | rfl | rfl <;> omega
  obtain ⟨h0, h1⟩ := all _ m
  refine ⟨h0, ?_⟩
  show ((larges seed).getD (seed / 9 % 5).toNat 0).toNat < 10 ^ 61
  generalize (larges seed).getD (seed / 9 % 5).toNat 0 = z at h0 h1
  omega
noncomputable def lensL (seed : Int) : List Int := [1, 2, 3, 4, 5, 1, 2, 3, 4, 1 + seed / 30 % 40]
theorem lens_ok (seed : Int) (h : 0 ≤ seed / 3 % 10 ∧ seed / 3 % 10 < 10) : 1 ≤ (lensL seed).getD (seed / 3 % 10).toNat 0 ∧ (lensL seed).getD (seed / 3 % 10).toNat 0 ≤ 40 := by
  have m : (lensL seed).getD (seed / 3 % 10).toNat 0 ∈ lensL seed := Fb.getD_mem (by show _ < 10; omega)
  have a1 := Int.emod_nonneg (seed / 30) (show (40 : Int) ≠ 0 by decide)
  have a2 := Int.emod_lt_of_pos (seed / 30) (show (0 : Int) < 40 by decide)
  have all : ∀ z ∈ lensL seed, 1 ≤ z ∧ z ≤ 40 := by
    intro z hz
    simp only [lensL, List.mem_cons, List.not_mem_nil, or_false] at hz
    rcases hz with rfl | rfl | rfl | rfl | rfl | rfl | rfl | rfl | rfl | rfl <;> omega
  exact all _ m
theorem alphabet : (Str.ofString "abcdefghijklmnopqrstuvwxyz").cps.toList = List.range' 97 26 := by decide +kernel
theorem letterAt (j : Int) (h0 : 0 ≤ j) (h1 : j < 26) : ∃ c, atI (Str.ofString "abcdefghijklmnopqrstuvwxyz").cps.toList j = some c ∧ (97 ≤ c ∧ c ≤ 122) := by
  rw [alphabet]
  have e : ((j.toNat : Nat) : Int) = j := by omega
  have q : atI (List.range' 97 26) ((j.toNat : Nat) : Int) = some (97 + j.toNat) := atI_nat (by
    rw [List.getElem?_range' (by omega)]; simp)
  rw [e] at q
  exact ⟨_, q, by omega, by omega⟩
theorem letters_snoc {x : Str} {c : Nat} (h : Letters x) (hc : 97 ≤ c ∧ c ≤ 122) : Letters (x ++ ⟨#[c]⟩) := fun d hd => by
  have e : (x ++ (⟨#[c]⟩ : Str)).cps.toList = x.cps.toList ++ [c] := by
    show (x.cps ++ #[c]).toList = _
    simp
  rw [e] at hd
  rcases List.mem_append.mp hd with z | z
  · exact h d z
  · simp at z; rw [z]; exact hc
end Fb

/-! The reader as a machine over a line's signs: it reads just what is bound, and to that. -/
namespace Fb
open PySem
inductive Fr where
  | op (s : Str) (l : BT)
  | par
/-- whether the sign that waits takes the part; none: refused -/
noncomputable def ahead (rs : List Row) (e s : Str) : Option Bool :=
  if rankOf rs e = rankOf rs s then (if sideOf rs e = "none" then none else some (decide (sideOf rs e = "left"))) else some (decide (rankOf rs s < rankOf rs e))
noncomputable def redS (rs : List Row) (sg : Str) : List Fr → BT → Option (List Fr × BT)
  | .op s l :: r, b => match ahead rs s sg with
    | none => none
    | some true => redS rs sg r (.node s l b)
    | some false => some (.op s l :: r, b)
  | st, b => some (st, b)
noncomputable def redA : List Fr → BT → List Fr × BT
  | .op s l :: r, b => redA r (.node s l b)
  | st, b => (st, b)
noncomputable def chS (c : Nat) : Str := ⟨#[c]⟩
structure MS where
  stk : List Fr
  cur : Option BT
noncomputable def closeM (m : MS) : Option MS := match m.cur with
  | none => none
  | some b => match redA m.stk b with
    | (.par :: r, b') => some ⟨r, some (.br b')⟩
    | _ => none
noncomputable def openM (m : MS) : Option MS := match m.cur with
  | none => some ⟨.par :: m.stk, none⟩
  | some _ => none
noncomputable def signM (rs : List Row) (m : MS) (sg : Str) : Option MS := match m.cur with
  | none => none
  | some b => match redS rs sg m.stk b with
    | none => none
    | some (st, b') => some ⟨.op sg b' :: st, none⟩
noncomputable def leafM (m : MS) (t : Tok) : Option MS := match leafB t with
  | none => none
  | some x => match m.cur with
    | none => some ⟨m.stk, some x⟩
    | some _ => none
noncomputable def isSg (rs : List Row) : Tok → Bool
  | .ch c => isSign rs c
  | _ => false
noncomputable def chOfT : Tok → Nat
  | .ch c => c
  | _ => 0
noncomputable def stepM (rs : List Row) (m : MS) (t : Tok) : Option MS :=
  if t = .ch 40 then openM m else if t = .ch 41 then closeM m else if isSg rs t = true then signM rs m (chS (chOfT t)) else leafM m t
noncomputable def runM (rs : List Row) : MS → List Tok → Option MS
  | m, [] => some m
  | m, t :: r => (stepM rs m t).bind fun m' => runM rs m' r
noncomputable def finM (m : MS) : Option BT := match m.cur with
  | none => none
  | some b => match redA m.stk b with
    | ([], b') => some b'
    | _ => none
noncomputable def readM (rs : List Row) (ts : List Tok) : Option BT := (runM rs ⟨[], none⟩ ts).bind finM

theorem runM_app (rs : List Row) : ∀ (a b : List Tok) (m : MS), runM rs m (a ++ b) = (runM rs m a).bind fun m' => runM rs m' b
  | [], b, m => rfl
  | t :: a, b, m => by
    show (stepM rs m t).bind _ = ((stepM rs m t).bind _).bind _
    cases stepM rs m t with
    | none => rfl
    | some m' => exact runM_app rs a b m'

/-! ### what is read is bound -/
noncomputable def topOk (rs : List Row) : List Fr → Option Str → Prop
  | .op s _ :: _, o => bare rs s "right" o
  | _, _ => True
noncomputable def StkOk (rs : List Row) : List Fr → Prop
  | [] => True
  | .par :: r => StkOk rs r
  | .op s l :: r => s ∈ signsOf rs ∧ WB rs l ∧ bare rs s "left" l.top ∧ topOk rs r (some s) ∧ StkOk rs r
noncomputable def flatS : List Fr → List Tok
  | [] => []
  | .par :: r => flatS r ++ [.ch 40]
  | .op s l :: r => flatS r ++ l.flat ++ [.ch (sgCh s)]
noncomputable def flatO : Option BT → List Tok
  | none => []
  | some b => b.flat
structure MOk (rs : List Row) (m : MS) : Prop where
  stk : StkOk rs m.stk
  cur : ∀ b, m.cur = some b → WB rs b ∧ b.top = none
theorem redA_ok {rs : List Row} : ∀ {st : List Fr} {b : BT}, StkOk rs st → WB rs b → topOk rs st b.top → StkOk rs (redA st b).1 ∧ WB rs (redA st b).2 ∧ flatS (redA st b).1 ++ (redA st b).2.flat = flatS st ++ b.flat
  | [], b, h, hb, _ => ⟨h, hb, rfl⟩
  | .par :: r, b, h, hb, _ => ⟨h, hb, rfl⟩
  | .op s l :: r, b, ⟨h1, h2, h3, h4, h5⟩, hb, ht => by
    have := redA_ok (st := r) (b := .node s l b) h5 ⟨h1, h2, hb, h3, ht⟩ h4
    refine ⟨this.1, this.2.1, ?_⟩
    show flatS (redA r (.node s l b)).1 ++ (redA r (.node s l b)).2.flat = _
    rw [this.2.2]
    simp [flatS, BT.flat]
theorem ahead_true {rs : List Row} (hf : Fine rs) {e s : Str} (he : e ∈ signsOf rs) (hs : s ∈ signsOf rs) (h : ahead rs e s = some true) : bare rs s "left" (some e) := by
  unfold ahead at h
  split at h
  · rename_i c
    split at h
    · cases h
    · refine .inr ⟨c.symm, ?_⟩
      rw [← side_eq hf he hs c]
      simpa using h
  · exact .inl (by simpa using h)
theorem ahead_false {rs : List Row} (hf : Fine rs) {e s : Str} (he : e ∈ signsOf rs) (h : ahead rs e s = some false) : bare rs e "right" (some s) := by
  unfold ahead at h
  split at h
  · rename_i c
    split at h
    · cases h
    · rename_i n
      refine .inr ⟨c, ?_⟩
      have h' : ¬ sideOf rs e = "left" := by simpa using h
      rcases side_mem hf he with z | z | z
      · exact absurd z h'
      · exact z
      · exact absurd z n
  · rename_i c
    refine .inl ?_
    have h' : ¬ rankOf rs s < rankOf rs e := by simpa using h
    omega
theorem redS_ok {rs : List Row} (hf : Fine rs) {sg : Str} (hsg : sg ∈ signsOf rs) : ∀ {st : List Fr} {b : BT} {st' : List Fr} {b' : BT}, StkOk rs st → WB rs b → topOk rs st b.top → bare rs sg "left" b.top → redS rs sg st b = some (st', b') →
    StkOk rs st' ∧ WB rs b' ∧ bare rs sg "left" b'.top ∧ topOk rs st' (some sg) ∧ flatS st' ++ b'.flat = flatS st ++ b.flat
  | [], b, st', b', h, hb, _, hl, e => by cases e; exact ⟨h, hb, hl, True.intro, rfl⟩
  | .par :: r, b, st', b', h, hb, _, hl, e => by cases e; exact ⟨h, hb, hl, True.intro, rfl⟩
  | .op s l :: r, b, st', b', ⟨h1, h2, h3, h4, h5⟩, hb, ht, hl, e => by
    unfold redS at e
    cases c : ahead rs s sg with
    | none => rw [c] at e; cases e
    | some k => cases k with
      | true =>
        rw [c] at e
        have e' : redS rs sg r (.node s l b) = some (st', b') := e
        obtain ⟨k1, k2, k3, k4, k5⟩ := redS_ok hf hsg (st := r) (b := .node s l b) h5 ⟨h1, h2, hb, h3, ht⟩ h4 (ahead_true hf h1 hsg c) e'
        refine ⟨k1, k2, k3, k4, ?_⟩
        rw [k5]; simp [flatS, BT.flat]
      | false =>
        rw [c] at e
        have e' : some (Fr.op s l :: r, b) = some (st', b') := e
        cases e'
        exact ⟨⟨h1, h2, h3, h4, h5⟩, hb, hl, ahead_false hf h1 c, rfl⟩
theorem chS_sg {rs : List Row} (hf : Fine rs) {c : Nat} (h : isSign rs c = true) : chS c ∈ signsOf rs ∧ sgCh (chS c) = c := by
  obtain ⟨sg, m, rfl⟩ := isSign_ex h
  have e := (sg_not_br hf m).2.2.2.2
  have : chS (sgCh sg) = sg := by
    cases sg with
    | mk q =>
      have e' : q.toList = [sgCh ⟨q⟩] := e
      show (⟨#[sgCh ⟨q⟩]⟩ : Str) = ⟨q⟩
      rw [show q = #[sgCh ⟨q⟩] from Array.toList_inj.mp e']
      rfl
  rw [this]
  exact ⟨m, rfl⟩
theorem chS_of {rs : List Row} (hf : Fine rs) {sg : Str} (m : sg ∈ signsOf rs) : chS (sgCh sg) = sg := by
  have e := (sg_not_br hf m).2.2.2.2
  cases sg with
  | mk q =>
    have e' : q.toList = [sgCh ⟨q⟩] := e
    show (⟨#[sgCh ⟨q⟩]⟩ : Str) = ⟨q⟩
    have e2 : q = #[sgCh ⟨q⟩] := Array.toList_inj.mp e'
    rw [← e2]
theorem bare_none {rs : List Row} {s side : Str} : bare rs s side none := True.intro
theorem topOk_none {rs : List Row} {st : List Fr} : topOk rs st none := by
  cases st with
  | nil => exact True.intro
  | cons f r => cases f <;> exact True.intro
theorem stepM_ok {rs : List Row} (hf : Fine rs) {m m' : MS} {t : Tok} (h : MOk rs m) (e : stepM rs m t = some m') : MOk rs m' ∧ flatS m'.stk ++ flatO m'.cur = flatS m.stk ++ flatO m.cur ++ [t] := by
  obtain ⟨st, cur⟩ := m
  obtain ⟨hs, hc⟩ := h
  unfold stepM at e
  split at e
  · rename_i c; subst c
    unfold openM at e
    cases cur with
    | none => cases e; exact ⟨⟨hs, fun b z => by cases z⟩, by simp [flatS, flatO]⟩
    | some b => cases e
  · split at e
    · rename_i c; subst c
      unfold closeM at e
      cases cur with
      | none => cases e
      | some b =>
        obtain ⟨hb, ht⟩ := hc b rfl
        have k := redA_ok (st := st) (b := b) hs hb (by rw [ht]; exact topOk_none)
        simp only at e
        generalize hq : redA st b = q at e k
        obtain ⟨st2, b2⟩ := q
        cases st2 with
        | nil => cases e
        | cons f r => cases f with
          | op s l => cases e
          | par =>
            cases e
            refine ⟨⟨k.1, fun b z => by cases z; exact ⟨k.2.1, rfl⟩⟩, ?_⟩
            have k3 : flatS r ++ [.ch 40] ++ b2.flat = flatS st ++ b.flat := k.2.2
            show flatS r ++ (.ch 40 :: (b2.flat ++ [.ch 41])) = flatS st ++ b.flat ++ [.ch 41]
            rw [← k3]; simp
    · split at e
      · rename_i n1 n2 hsig
        cases t with
        | word w => cases hsig
        | figs w => cases hsig
        | ch c =>
          have hc' : isSign rs c = true := hsig
          obtain ⟨m, e2⟩ := chS_sg hf hc'
          unfold signM at e
          cases cur with
          | none => cases e
          | some b =>
            obtain ⟨hb, ht⟩ := hc b rfl
            simp only at e
            cases q : redS rs (chS (chOfT (.ch c))) st b with
            | none => rw [q] at e; cases e
            | some p =>
              obtain ⟨st2, b2⟩ := p
              rw [q] at e
              cases e
              obtain ⟨k1, k2, k3, k4, k5⟩ := redS_ok hf m hs hb (by rw [ht]; exact topOk_none) (by rw [ht]; exact bare_none) q
              refine ⟨⟨⟨m, k2, k3, k4, k1⟩, fun b z => by cases z⟩, ?_⟩
              show flatS st2 ++ b2.flat ++ [.ch (sgCh (chS c))] ++ [] = flatS st ++ b.flat ++ [.ch c]
              rw [k5, e2, List.append_nil]
      · unfold leafM at e
        cases q : leafB t with
        | none => rw [q] at e; cases e
        | some x =>
          rw [q] at e
          cases cur with
          | some b => cases e
          | none =>
            cases e
            obtain ⟨k1, k2, k3, _⟩ := leafB_ok (rs := rs) q
            exact ⟨⟨hs, fun b z => by cases z; exact ⟨k1, k2⟩⟩, by simp [flatO, k3]⟩
theorem runM_ok {rs : List Row} (hf : Fine rs) : ∀ (ts : List Tok) {m m' : MS}, MOk rs m → runM rs m ts = some m' → MOk rs m' ∧ flatS m'.stk ++ flatO m'.cur = flatS m.stk ++ flatO m.cur ++ ts
  | [], m, m', h, e => by cases e; exact ⟨h, by simp⟩
  | t :: r, m, m', h, e => by
    have e' : ((stepM rs m t).bind fun m' => runM rs m' r) = some m' := e
    cases q : stepM rs m t with
    | none => rw [q] at e'; cases e'
    | some m1 =>
      rw [q] at e'
      obtain ⟨h1, f1⟩ := stepM_ok hf h q
      obtain ⟨h2, f2⟩ := runM_ok hf r h1 e'
      exact ⟨h2, by rw [f2, f1]; simp⟩
theorem readM_sound {rs : List Row} (hf : Fine rs) {ts : List Tok} {b : BT} (h : readM rs ts = some b) : WB rs b ∧ b.flat = ts := by
  unfold readM at h
  cases q : runM rs ⟨[], none⟩ ts with
  | none => rw [q] at h; cases h
  | some m =>
    rw [q] at h
    obtain ⟨⟨hs, hc⟩, f⟩ := runM_ok hf ts (m := ⟨[], none⟩) ⟨True.intro, fun b z => by cases z⟩ q
    obtain ⟨st, cur⟩ := m
    have h' : finM ⟨st, cur⟩ = some b := h
    unfold finM at h'
    cases cur with
    | none => cases h'
    | some c =>
      obtain ⟨hb, ht⟩ := hc c rfl
      have k := redA_ok (st := st) (b := c) hs hb (by rw [ht]; exact topOk_none)
      simp only at h'
      generalize redA st c = q at h' k
      obtain ⟨st2, b2⟩ := q
      cases st2 with
      | cons f r => cases h'
      | nil =>
        cases h'
        have k3 : [] ++ b.flat = flatS st ++ c.flat := k.2.2
        refine ⟨k.2.1, ?_⟩
        have f' : flatS st ++ c.flat = [] ++ [] ++ ts := f
        rw [f'] at k3
        simpa using k3

/-! ### what is bound is read, and to that -/
noncomputable def spine : BT → List Fr × BT
  | .node s l r => ((spine r).1 ++ [.op s l], (spine r).2)
  | b => ([], b)
theorem redA_spine : ∀ (b : BT) (st : List Fr), redA ((spine b).1 ++ st) (spine b).2 = redA st b
  | .num _, _ => rfl
  | .name _, _ => rfl
  | .br _, _ => rfl
  | .node s l r, st => by
    show redA (((spine r).1 ++ [.op s l]) ++ st) (spine r).2 = _
    rw [List.append_assoc, redA_spine r]; rfl
theorem redS_spine {rs : List Row} (hf : Fine rs) {sg : Str} (hsg : sg ∈ signsOf rs) : ∀ (b : BT) (st : List Fr), WB rs b → bare rs sg "left" b.top → redS rs sg ((spine b).1 ++ st) (spine b).2 = redS rs sg st b
  | .num _, _, _, _ => rfl
  | .name _, _, _, _ => rfl
  | .br _, _, _, _ => rfl
  | .node s l r, st, ⟨h1, h2, h3, h4, h5⟩, hl => by
    show redS rs sg (((spine r).1 ++ [.op s l]) ++ st) (spine r).2 = _
    have hr : bare rs sg "left" r.top := by
      cases e : r.top with
      | none => exact True.intro
      | some q =>
        rw [e] at h5
        have hl' : rankOf rs sg < rankOf rs s ∨ (rankOf rs sg = rankOf rs s ∧ sideOf rs sg = "left") := hl
        rcases hl' with z | ⟨z1, z2⟩
        · rcases h5 with y | y
          · exact .inl (by omega)
          · exact .inl (by omega)
        · rcases h5 with y | ⟨y1, y2⟩
          · exact .inl (by omega)
          · have := side_eq hf hsg h1 z1
            rw [z2, y2] at this
            exact absurd this (by decide)
    rw [List.append_assoc, redS_spine hf hsg r _ h3 hr]
    show redS rs sg (.op s l :: st) r = redS rs sg st (.node s l r)
    have : ahead rs s sg = some true := by
      unfold ahead
      have hl' : rankOf rs sg < rankOf rs s ∨ (rankOf rs sg = rankOf rs s ∧ sideOf rs sg = "left") := hl
      rcases hl' with z | ⟨z1, z2⟩
      · rw [if_neg (by omega), decide_eq_true z]
      · have := side_eq hf hsg h1 z1
        rw [z2] at this
        rw [if_pos z1.symm, ← this, if_neg (by decide)]
        rfl
    conv => lhs; unfold redS
    rw [this]
theorem redS_stop {rs : List Row} {sg : Str} {st : List Fr} {b : BT} (h : topOk rs st (some sg)) : redS rs sg st b = some (st, b) := by
  cases st with
  | nil => rfl
  | cons f r => cases f with
    | par => rfl
    | op s l =>
      have h' : rankOf rs s < rankOf rs sg ∨ (rankOf rs s = rankOf rs sg ∧ sideOf rs s = "right") := h
      have : ahead rs s sg = some false := by
        unfold ahead
        rcases h' with z | ⟨z1, z2⟩
        · rw [if_neg (by omega), decide_eq_false (by omega)]
        · rw [if_pos z1, z2, if_neg (by decide)]; rfl
      conv => lhs; unfold redS
      rw [this]
theorem runM_one {rs : List Row} {m : MS} {t : Tok} {r : List Tok} : runM rs m (t :: r) = (stepM rs m t).bind fun m' => runM rs m' r := rfl
theorem leaf_step {rs : List Row} {st : List Fr} {t : Tok} {x : BT} (h : leafB t = some x) (n : isSg rs t = false) : stepM rs ⟨st, none⟩ t = some ⟨st, some x⟩ := by
  unfold stepM
  have n1 : t ≠ .ch 40 := fun z => by subst z; cases h
  have n2 : t ≠ .ch 41 := fun z => by subst z; cases h
  rw [if_neg n1, if_neg n2, if_neg (by rw [n]; decide)]
  unfold leafM
  rw [h]
theorem topOk_left {rs : List Row} (hf : Fine rs) {st : List Fr} {s : Str} (hs : s ∈ signsOf rs) (hS : StkOk rs st) (h : topOk rs st (some s)) {o : Option Str} (hl : bare rs s "left" o) : topOk rs st o := by
  cases st with
  | nil => exact True.intro
  | cons f r => cases f with
    | par => exact True.intro
    | op e l =>
      cases o with
      | none => exact True.intro
      | some q =>
        have h' : rankOf rs e < rankOf rs s ∨ (rankOf rs e = rankOf rs s ∧ sideOf rs e = "right") := h
        have hl' : rankOf rs s < rankOf rs q ∨ (rankOf rs s = rankOf rs q ∧ sideOf rs s = "left") := hl
        show rankOf rs e < rankOf rs q ∨ (rankOf rs e = rankOf rs q ∧ sideOf rs e = "right")
        rcases h' with z | ⟨z1, z2⟩
        · rcases hl' with y | y <;> exact .inl (by omega)
        · rcases hl' with y | ⟨y1, y2⟩
          · exact .inl (by omega)
          · have := side_eq hf hS.1 hs z1
            rw [z2, y2] at this
            exact absurd this (by decide)
theorem run_flatM {rs : List Row} (hf : Fine rs) : ∀ {b : BT}, WB rs b → ∀ st, StkOk rs st → topOk rs st b.top → runM rs ⟨st, none⟩ b.flat = some ⟨(spine b).1 ++ st, some (spine b).2⟩
  | .num n, _, st, _, _ => by
    show runM rs ⟨st, none⟩ [.figs (digs n)] = _
    have e : leafB (.figs (digs n)) = some (.num n) := by
      show (if digs (figVal (digs n)) = digs n then some (BT.num (figVal (digs n))) else none) = _
      rw [figVal_digs, if_pos rfl]
    rw [runM_one, leaf_step e rfl]; rfl
  | .name w, h, st, _, _ => by
    show runM rs ⟨st, none⟩ [.word w.cps.toList] = _
    have e : leafB (.word w.cps.toList) = some (.name ⟨w.cps.toList.toArray⟩) := if_pos h
    rw [runM_one, leaf_step e rfl]
    show some (MS.mk st (some (BT.name ⟨w.cps.toList.toArray⟩))) = some ⟨[] ++ st, some (.name w)⟩
    simp
  | .br b, h, st, hS, _ => by
    show runM rs ⟨st, none⟩ (.ch 40 :: (b.flat ++ [.ch 41])) = _
    have e1 : stepM rs ⟨st, none⟩ (.ch 40) = some ⟨.par :: st, none⟩ := rfl
    rw [runM_one, e1]
    show runM rs ⟨.par :: st, none⟩ (b.flat ++ [.ch 41]) = _
    rw [runM_app, run_flatM hf (b := b) h (.par :: st) hS (by exact True.intro)]
    show runM rs ⟨(spine b).1 ++ .par :: st, some (spine b).2⟩ [.ch 41] = _
    have e2 : stepM rs ⟨(spine b).1 ++ .par :: st, some (spine b).2⟩ (.ch 41) = some ⟨st, some (.br b)⟩ := by
      show closeM ⟨(spine b).1 ++ .par :: st, some (spine b).2⟩ = _
      unfold closeM
      simp only
      rw [redA_spine b (.par :: st)]
      rfl
    rw [runM_one, e2]; rfl
  | .node s l r, ⟨h1, h2, h3, h4, h5⟩, st, hS, ht => by
    show runM rs ⟨st, none⟩ (l.flat ++ .ch (sgCh s) :: r.flat) = _
    have htl := topOk_left hf h1 hS ht h4
    rw [runM_app, run_flatM hf h2 st hS htl]
    show runM rs ⟨(spine l).1 ++ st, some (spine l).2⟩ (.ch (sgCh s) :: r.flat) = _
    obtain ⟨n40, n41, _, _, _⟩ := sg_not_br hf h1
    have e2 : stepM rs ⟨(spine l).1 ++ st, some (spine l).2⟩ (.ch (sgCh s)) = some ⟨.op s l :: st, none⟩ := by
      unfold stepM
      rw [if_neg (fun z => n40 (Tok.ch.inj z)), if_neg (fun z => n41 (Tok.ch.inj z)), if_pos (show isSg rs (.ch (sgCh s)) = true from isSign_of h1)]
      unfold signM
      simp only
      show (match redS rs (chS (sgCh s)) ((spine l).1 ++ st) (spine l).2 with | none => none | some (st, b') => some (MS.mk (.op (chS (sgCh s)) b' :: st) none)) = _
      rw [chS_of hf h1, redS_spine hf h1 l st h2 h4, redS_stop ht]
    rw [runM_one, e2]
    show runM rs ⟨.op s l :: st, none⟩ r.flat = _
    rw [run_flatM hf h3 (.op s l :: st) ⟨h1, h2, h4, ht, hS⟩ h5]
    show some (MS.mk ((spine r).1 ++ .op s l :: st) (some (spine r).2)) = some (MS.mk (((spine r).1 ++ [.op s l]) ++ st) (some (spine r).2))
    simp
theorem readM_of {rs : List Row} (hf : Fine rs) {b : BT} (h : WB rs b) : readM rs b.flat = some b := by
  unfold readM
  rw [run_flatM hf h [] True.intro (by exact True.intro)]
  show finM ⟨(spine b).1 ++ [], some (spine b).2⟩ = some b
  unfold finM
  simp only
  rw [redA_spine b []]
  rfl
/-- the machine tells what a line is read to -/
theorem reads_machine {rs : List Row} (hf : Fine rs) (x : List Nat) (t : Rek) : Reads rs x t ↔ ∃ b, readM rs (lex x) = some b ∧ b.erase = t := by
  constructor
  · rintro ⟨b, hb, e, r⟩
    exact ⟨b, by rw [← e]; exact readM_of hf hb, r⟩
  · rintro ⟨b, h, r⟩
    obtain ⟨h1, h2⟩ := readM_sound hf h
    exact ⟨b, h1, h2, r⟩
end Fb

/-! A line's signs from its left: the first one, and what is left. -/
namespace Fb
open PySem
noncomputable def tokT : Tok → List Nat
  | .word w => w
  | .figs w => w
  | .ch c => [c]
noncomputable def startsNo (p : Nat → Bool) : List Nat → Prop
  | [] => True
  | c :: _ => p c = false
theorem lex0_no_word {y : List Nat} (h : startsNo isLet y) : ∀ w r, lex0 y ≠ .word w :: r := by
  cases y with
  | nil => intro w r e; cases e
  | cons c y =>
    intro w r e
    have e' : push c (lex0 y) = .word w :: r := e
    unfold push at e'
    have h' : isLet c = false := h
    rw [if_neg (by rw [h']; decide)] at e'
    split at e'
    · obtain ⟨w', r', q⟩ := addFig_ne c (lex0 y); rw [q] at e'; cases e'
    · cases e'
theorem lex0_no_figs {y : List Nat} (h : startsNo isFig y) : ∀ w r, lex0 y ≠ .figs w :: r := by
  cases y with
  | nil => intro w r e; cases e
  | cons c y =>
    intro w r e
    have e' : push c (lex0 y) = .figs w :: r := e
    unfold push at e'
    have h' : isFig c = false := h
    split at e'
    · obtain ⟨w', r', q⟩ := addLet_ne c (lex0 y); rw [q] at e'; cases e'
    · rw [if_neg (by rw [h']; decide)] at e'
      cases e'
theorem lex0_letRun {y : List Nat} (hy : startsNo isLet y) : ∀ {w : List Nat}, (∀ c ∈ w, isLet c = true) → w ≠ [] → lex0 (w ++ y) = .word w :: lex0 y
  | [c], h, _ => by
    have hc : isLet c = true := h c (by simp)
    show push c (lex0 y) = _
    unfold push; rw [if_pos hc]
    cases e : lex0 y with
    | nil => rfl
    | cons t r => cases t with
      | word w => exact absurd e (lex0_no_word hy w r)
      | figs w => rfl
      | ch c => rfl
  | c :: d :: r, h, _ => by
    have hc : isLet c = true := h c (by simp)
    show push c (lex0 ((d :: r) ++ y)) = _
    rw [lex0_letRun hy (fun e he => h e (List.mem_cons_of_mem _ he)) (by simp)]
    unfold push; rw [if_pos hc]; rfl
theorem lex0_figRun {y : List Nat} (hy : startsNo isFig y) : ∀ {w : List Nat}, (∀ c ∈ w, isFig c = true) → w ≠ [] → lex0 (w ++ y) = .figs w :: lex0 y
  | [c], h, _ => by
    have hc : isFig c = true := h c (by simp)
    show push c (lex0 y) = _
    unfold push; rw [if_neg (by rw [let_not_fig hc]; decide), if_pos hc]
    cases e : lex0 y with
    | nil => rfl
    | cons t r => cases t with
      | word w => rfl
      | figs w => exact absurd e (lex0_no_figs hy w r)
      | ch c => rfl
  | c :: d :: r, h, _ => by
    have hc : isFig c = true := h c (by simp)
    show push c (lex0 ((d :: r) ++ y)) = _
    rw [lex0_figRun hy (fun e he => h e (List.mem_cons_of_mem _ he)) (by simp)]
    unfold push; rw [if_neg (by rw [let_not_fig hc]; decide), if_pos hc]; rfl
theorem dropWhile_no (p : Nat → Bool) : ∀ x : List Nat, startsNo p (x.dropWhile p)
  | [] => True.intro
  | c :: r => by
    rw [List.dropWhile_cons]
    cases e : p c with
    | true => exact dropWhile_no p r
    | false => exact e
theorem takeWhile_all (p : Nat → Bool) : ∀ (x : List Nat), ∀ c ∈ x.takeWhile p, p c = true
  | [], c, h => by simp at h
  | d :: r, c, h => by
    rw [List.takeWhile_cons] at h
    cases e : p d with
    | true =>
      rw [e] at h
      have h' : c ∈ d :: r.takeWhile p := h
      rcases List.mem_cons.mp h' with z | z
      · rw [z]; exact e
      · exact takeWhile_all p r c z
    | false => rw [e] at h; simp at h
/-- how far a run goes -/
noncomputable def runLen (p : Nat → Bool) (x : List Nat) : Nat := (x.takeWhile p).length
theorem take_runLen (p : Nat → Bool) : ∀ x : List Nat, x.take (runLen p x) = x.takeWhile p
  | [] => rfl
  | c :: r => by
    unfold runLen
    rw [List.takeWhile_cons]
    cases e : p c with
    | true => show c :: r.take (runLen p r) = _; rw [take_runLen p r]; rfl
    | false => rfl
theorem drop_runLen (p : Nat → Bool) : ∀ x : List Nat, x.drop (runLen p x) = x.dropWhile p
  | [] => rfl
  | c :: r => by
    unfold runLen
    rw [List.takeWhile_cons, List.dropWhile_cons]
    cases e : p c with
    | true => show r.drop (runLen p r) = _; rw [drop_runLen p r]; rfl
    | false => rfl
theorem runLen_pos {p : Nat → Bool} {c : Nat} {r : List Nat} (h : p c = true) : 1 ≤ runLen p (c :: r) := by
  unfold runLen; rw [List.takeWhile_cons, h]; simp
theorem runLen_le (p : Nat → Bool) : ∀ x : List Nat, runLen p x ≤ x.length
  | [] => Nat.le_refl _
  | c :: r => by
    unfold runLen
    rw [List.takeWhile_cons]
    cases p c with
    | true => have := runLen_le p r; show (r.takeWhile p).length + 1 ≤ r.length + 1; exact Nat.succ_le_succ this
    | false => exact Nat.zero_le _
/-- a run ends where its first sign stands that is none of it -/
theorem runLen_eq {p : Nat → Bool} : ∀ {x : List Nat} {j : Nat}, (∀ i, i < j → ∃ c, x[i]? = some c ∧ p c = true) → (∀ c, x[j]? = some c → p c = false) → runLen p x = j
  | [], j, h1, _ => by
    cases j with
    | zero => rfl
    | succ j => obtain ⟨c, e, _⟩ := h1 0 (by omega); simp at e
  | d :: r, j, h1, h2 => by
    unfold runLen
    rw [List.takeWhile_cons]
    cases j with
    | zero => rw [h2 d rfl]; rfl
    | succ j =>
      obtain ⟨c, e, hc⟩ := h1 0 (by omega)
      cases e
      rw [hc]
      show (r.takeWhile p).length + 1 = j + 1
      have : runLen p r = j := runLen_eq (x := r) (fun i hi => by
        obtain ⟨c, e, hc⟩ := h1 (i + 1) (by omega)
        exact ⟨c, by simpa using e, hc⟩) (fun c e => h2 c (by simpa using e))
      unfold runLen at this
      rw [this]
noncomputable def tokLen (c : Nat) (r : List Nat) : Nat := if isLet c then runLen isLet (c :: r) else if isFig c then runLen isFig (c :: r) else 1
noncomputable def tokOf (c : Nat) (r : List Nat) : Tok := if isLet c then .word ((c :: r).takeWhile isLet) else if isFig c then .figs ((c :: r).takeWhile isFig) else .ch c
theorem lex0_first (c : Nat) (r : List Nat) : lex0 (c :: r) = tokOf c r :: lex0 ((c :: r).drop (tokLen c r)) := by
  unfold tokOf tokLen
  split
  · rename_i h
    rw [drop_runLen]
    have := lex0_letRun (dropWhile_no isLet (c :: r)) (takeWhile_all isLet (c :: r)) (by rw [List.takeWhile_cons, h]; simp)
    rw [List.takeWhile_append_dropWhile] at this
    exact this
  · rename_i h
    split
    · rename_i h2
      rw [drop_runLen]
      have := lex0_figRun (dropWhile_no isFig (c :: r)) (takeWhile_all isFig (c :: r)) (by rw [List.takeWhile_cons, h2]; simp)
      rw [List.takeWhile_append_dropWhile] at this
      exact this
    · rename_i h2
      show push c (lex0 r) = _
      unfold push; rw [if_neg h, if_neg h2]; rfl
theorem tokT_of (c : Nat) (r : List Nat) : tokT (tokOf c r) = (c :: r).take (tokLen c r) := by
  unfold tokOf tokLen
  split
  · rw [take_runLen]; rfl
  · split
    · rw [take_runLen]; rfl
    · rfl
theorem tokLen_pos (c : Nat) (r : List Nat) : 1 ≤ tokLen c r ∧ tokLen c r ≤ (c :: r).length := by
  unfold tokLen
  split
  · rename_i h; exact ⟨runLen_pos h, runLen_le _ _⟩
  · split
    · rename_i h; exact ⟨runLen_pos h, runLen_le _ _⟩
    · exact ⟨Nat.le_refl _, by simp⟩
/-- what a sign of a line is made of -/
noncomputable def LexOk : Tok → Prop
  | .word w => w ≠ [] ∧ ∀ c ∈ w, isLet c = true
  | .figs w => w ≠ [] ∧ ∀ c ∈ w, isFig c = true
  | .ch c => isLet c = false ∧ isFig c = false
theorem tokOf_ok (c : Nat) (r : List Nat) : LexOk (tokOf c r) := by
  unfold tokOf
  split
  · rename_i h; exact ⟨by rw [List.takeWhile_cons, h]; simp, takeWhile_all _ _⟩
  · rename_i h
    split
    · rename_i h2; exact ⟨by rw [List.takeWhile_cons, h2]; simp, takeWhile_all _ _⟩
    · rename_i h2; exact ⟨by simpa using h, by simpa using h2⟩
theorem lex0_ok : ∀ (n : Nat) (x : List Nat), x.length ≤ n → ∀ t ∈ lex0 x, LexOk t
  | _, [], _, t, h => by cases h
  | 0, c :: r, hl, t, h => by simp at hl
  | n + 1, c :: r, hl, t, h => by
    rw [lex0_first] at h
    rcases List.mem_cons.mp h with z | z
    · rw [z]; exact tokOf_ok c r
    · refine lex0_ok n _ ?_ t z
      have := tokLen_pos c r
      rw [List.length_drop]
      omega
theorem lex_ok (x : List Nat) : ∀ t ∈ lex x, LexOk t := fun t h => lex0_ok x.length x (Nat.le_refl _) t (List.mem_filter.mp h).1
theorem tokT_blank {t : Tok} (h : LexOk t) : tokT t = [32] ↔ t = .ch 32 := by
  cases t with
  | word w =>
    refine ⟨fun e => ?_, fun e => by cases e⟩
    have e' : w = [32] := e
    have := h.2 32 (by rw [e']; simp)
    exact absurd this (by decide)
  | figs w =>
    refine ⟨fun e => ?_, fun e => by cases e⟩
    have e' : w = [32] := e
    have := h.2 32 (by rw [e']; simp)
    exact absurd this (by decide)
  | ch c =>
    refine ⟨fun e => ?_, fun e => by rw [e]; rfl⟩
    have e' : [c] = [32] := e
    simp at e'
    rw [e']
/-- the next sign of a line that isn't over -/
theorem lex_first (c : Nat) (r : List Nat) : lex (c :: r) = (if tokOf c r = .ch 32 then [] else [tokOf c r]) ++ lex ((c :: r).drop (tokLen c r)) := by
  unfold lex
  rw [lex0_first, List.filter_cons]
  by_cases e : tokOf c r = .ch 32
  · rw [if_pos e, if_neg (by simp [noBlank, e])]; rfl
  · rw [if_neg e, if_pos (by simpa [noBlank] using e)]; rfl
theorem tokT_ne {t : Tok} (h : LexOk t) : tokT t ≠ [] := by
  cases t with
  | word w => exact h.1
  | figs w => exact h.1
  | ch c => simp [tokT]
theorem tokT_inj {s t : Tok} (hs : LexOk s) (ht : LexOk t) (e : tokT s = tokT t) : s = t := by
  have key : ∀ c : Nat, isLet c = true → isFig c = true → False := fun c a b => by rw [let_not_fig b] at a; cases a
  cases s with
  | word w => cases t with
    | word v => have e' : w = v := e; rw [e']
    | figs v =>
      have e' : w = v := e
      subst e'
      cases w with
      | nil => exact absurd rfl hs.1
      | cons c r => exact (key c (hs.2 c (by simp)) (ht.2 c (by simp))).elim
    | ch c =>
      have e' : w = [c] := e
      have := hs.2 c (by rw [e']; simp)
      rw [ht.1] at this; cases this
  | figs w => cases t with
    | word v =>
      have e' : w = v := e
      subst e'
      cases w with
      | nil => exact absurd rfl hs.1
      | cons c r => exact (key c (ht.2 c (by simp)) (hs.2 c (by simp))).elim
    | figs v => have e' : w = v := e; rw [e']
    | ch c =>
      have e' : w = [c] := e
      have := hs.2 c (by rw [e']; simp)
      rw [ht.2] at this; cases this
  | ch d => cases t with
    | word v =>
      have e' : [d] = v := e
      have := ht.2 d (by rw [← e']; simp)
      rw [hs.1] at this; cases this
    | figs v =>
      have e' : [d] = v := e
      have := ht.2 d (by rw [← e']; simp)
      rw [hs.2] at this; cases this
    | ch c => have e' : [d] = [c] := e; simp at e'; rw [e']

/-! ### numbers without a nought ahead -/
theorem figVal_snoc (v : List Nat) (d : Nat) : figVal (v ++ [d]) = 10 * figVal v + (d - 48) := by
  unfold figVal; rw [List.foldl_append]; rfl
theorem snoc_ind {P : List Nat → Prop} (h0 : P []) (h1 : ∀ v d, P v → P (v ++ [d])) : ∀ w, P w := by
  intro w
  have : ∀ r : List Nat, P r.reverse := by
    intro r
    induction r with
    | nil => exact h0
    | cons d r ih => rw [List.reverse_cons]; exact h1 _ _ ih
  have := this w.reverse
  rwa [List.reverse_reverse] at this
theorem figVal_pos : ∀ w : List Nat, (∀ c ∈ w, isFig c = true) → ∀ c, w.head? = some c → c ≠ 48 → 0 < figVal w := by
  refine snoc_ind ?_ ?_
  · intro _ c h; cases h
  · intro v d ih hf c hc hn
    rw [figVal_snoc]
    cases v with
    | nil =>
      simp at hc
      subst hc
      have := hf d (by simp)
      unfold isFig at this
      simp only [decide_eq_true_eq] at this
      omega
    | cons e r =>
      have := ih (fun c hc => hf c (List.mem_append_left _ hc)) c (by simpa using hc) hn
      omega
theorem digs_back : ∀ w : List Nat, w ≠ [] → (∀ c ∈ w, isFig c = true) → (w.head? = some 48 → w = [48]) → digs (figVal w) = w := by
  refine snoc_ind ?_ ?_
  · intro h; exact absurd rfl h
  · intro v d ih _ hf hz
    have hd := hf d (by simp)
    unfold isFig at hd
    simp only [decide_eq_true_eq] at hd
    rw [figVal_snoc]
    cases v with
    | nil =>
      have e : 10 * figVal [] + (d - 48) = d - 48 := by unfold figVal; simp
      rw [e, digs, dif_pos (by omega)]
      show [48 + (d - 48)] = [d]
      congr 1; omega
    | cons c r =>
      have hc : c ≠ 48 := fun z => by
        have := hz (by rw [z]; rfl)
        simp at this
      have hp := figVal_pos (c :: r) (fun e he => hf e (List.mem_append_left _ he)) c rfl hc
      rw [digs, dif_neg (by omega)]
      have e1 : (10 * figVal (c :: r) + (d - 48)) / 10 = figVal (c :: r) := by omega
      have e2 : (10 * figVal (c :: r) + (d - 48)) % 10 = d - 48 := by omega
      rw [e1, e2, ih (by simp) (fun e he => hf e (List.mem_append_left _ he)) (fun z => by simp at z; exact absurd z hc)]
      show (c :: r) ++ [48 + (d - 48)] = _
      congr 2; omega
theorem digs_back_iff {w : List Nat} (hn : w ≠ []) (hf : ∀ c ∈ w, isFig c = true) : digs (figVal w) = w ↔ (w.head? = some 48 → w = [48]) := by
  refine ⟨fun e h => ?_, digs_back w hn hf⟩
  have h0 : figVal w = 0 := Classical.byContradiction fun z => digs_head _ z (by rw [e]; exact h)
  rw [h0] at e
  rw [← e]
  rw [digs, dif_pos (by decide)]
end Fb

/-! Texts as lists of their signs, leaves as texts, what the program's defs promise. -/
namespace Fb
open PySem PySem.Spec PySem.Calls PyProof.Rows L2

noncomputable def txtOf (l : List Nat) : Str := ⟨l.toArray⟩
theorem txtOf_cps (x : Str) : txtOf x.cps.toList = x := by cases x; simp [txtOf]
theorem cps_txtOf (l : List Nat) : (txtOf l).cps.toList = l := by simp [txtOf]
theorem txtOf_len (l : List Nat) : (txtOf l).length = l.length := by show l.toArray.size = _; simp
theorem txtOf_inj {a b : List Nat} (h : txtOf a = txtOf b) : a = b := by have := congrArg (fun z : Str => z.cps.toList) h; simpa [txtOf] using this
theorem s_open : (Str.ofString "(") = txtOf [40] := by decide +kernel
theorem s_close : (Str.ofString ")") = txtOf [41] := by decide +kernel
theorem s_blank : (Str.ofString " ") = txtOf [32] := by decide +kernel
theorem s_none : (Str.ofString "") = txtOf [] := by decide +kernel
theorem digit_ch : ∀ d : Nat, d < 10 → (Nat.digitChar d).toNat = 48 + d := by decide
theorem toDigits_digs (n : Nat) : (Nat.toDigits 10 n).map Char.toNat = digs n := by
  induction n using digs.induct with
  | case1 n h => rw [digs, dif_pos h, Nat.toDigits_of_lt_base h]; show [(Nat.digitChar n).toNat] = _; rw [digit_ch n h]
  | case2 n h ih =>
    rw [digs, dif_neg h, Nat.toDigits_of_base_le (by decide) (by omega), List.map_append, ih]
    show _ ++ [(Nat.digitChar (n % 10)).toNat] = _
    rw [digit_ch _ (Nat.mod_lt _ (by decide))]
theorem toString_digs (n : Nat) : Str.ofString (toString (n : Int)) = txtOf (digs n) := by
  have := PySem.W.KIN.signs_num n
  rw [toDigits_digs] at this
  rw [← this, txtOf_cps]
/-- a leaf's text -/
noncomputable def Rek.text : Rek → List Nat
  | .num n => digs n
  | .name w => w.cps.toList
  | .node _ _ _ => []
theorem log_small {n : Nat} (h : n < 10 ^ 61) : (n : Int).natAbs.log2 < 1920 := by
  show n.log2 < 1920
  by_cases z : n = 0
  · subst z; decide
  · exact (Nat.log2_lt z).mpr (Nat.lt_of_lt_of_le h (by decide))
/-- str(leaf) -/
theorem call_str_leaf {X : Cx} : CallR X (.type "str") (fun xs H Q => ∃ v t, xs = [v] ∧ TreeAt H v t ∧ LeafOk t ∧ Q (.str (txtOf t.text)) H) := by
  intro pins s σ H xs us Q I r h
  obtain ⟨v, t, rfl, ht, hl, q⟩ := h
  obtain ⟨u, rfl, r1⟩ := vals1 r
  cases t with
  | num n =>
    cases ht
    obtain ⟨t, rfl⟩ := r1
    refine PySem.P.str_of_int (log_small hl) ⟨.str _, H, I.tok _, ⟨_, rfl⟩, ?_⟩
    have e : (Str.ofString (toString (n : Int))) = txtOf (digs n) := toString_digs n
    rw [e]; exact q
  | name w =>
    cases ht
    obtain ⟨t, rfl⟩ := r1
    have q' : Q (.str (txtOf w.cps.toList)) H := q
    rw [txtOf_cps] at q'
    exact PySem.P.str_of_str ⟨.str _, H, I, ⟨_, rfl⟩, q'⟩
  | node sg l r => exact hl.elim

/-! ### sizes -/
theorem digs_len : ∀ (k n : Nat), n < 10 ^ (k + 1) → (digs n).length ≤ k + 1
  | 0, n, h => by rw [digs, dif_pos (by simpa using h)]; simp
  | k + 1, n, h => by
    rw [digs]
    split
    · simp
    · rw [List.length_append]
      have : n / 10 < 10 ^ (k + 1) := by
        rw [Nat.div_lt_iff_lt_mul (by decide)]
        rw [Nat.pow_succ] at h; exact h
      have := digs_len k (n / 10) this
      simp; omega
/-- the lines that are handed in here -/
structure LineOk (x : List Nat) : Prop where
  len : x.length ≤ 20000
  figs : ∀ w, .figs w ∈ lex x → w.length ≤ 640
  asc : ∀ t ∈ lex x, ∀ c ∈ tokT t, c < 128
theorem let_asc {c : Nat} (h : isLet c = true) : c < 128 := by unfold isLet at h; simp only [decide_eq_true_eq] at h; omega
theorem fig_asc {c : Nat} (h : isFig c = true) : c < 128 := by unfold isFig at h; simp only [decide_eq_true_eq] at h; omega
theorem sg_asc {rs : List Row} (hf : Fine rs) {sg : Str} (h : sg ∈ signsOf rs) : sgCh sg < 128 := by
  obtain ⟨r, hr, rfl⟩ := List.mem_map.mp h
  have all : ∀ s ∈ signMenu, sgCh s < 128 := by decide +kernel
  exact all _ (hf.sign r hr)
/-! ### what the program's defs promise -/
/-- the line is read with a fine table -/
noncomputable def spReadOk (CL : Addr) : Sp := fun vs H Q E => ∃ (l : Addr) (rs : List Row) (x : List Nat), vs = [.ref l, .str (txtOf x)] ∧ TabAt H l rs ∧ Fine rs ∧ rs.length ≤ 10 ∧ LineOk x ∧
  ((∃ t, Reads rs x t ∧ ∀ v H', TreeAt H' v t → Same H H' → Q v H') ∨ ((∀ t, ¬ Reads rs x t) ∧ ∀ H', Same H H' → E (.ref CL) none H'))
/-! ### a def that may raise, called where it doesn't -/
section
variable {P : Program} {w : World} {K : PySem.W.Frag} {mg : Str → Option Value} {base : Heap}
end
/-! ### a def of the top that is called by its name -/
structure Cal (P : Program) (w : World) (K : PySem.W.Frag) (mg : Str → Option Value) (base : Heap) (CX : CXT) (k : Nat) (x : Str) (ps : List Str) (sp : Sp) : Prop where
  ex : ∃ (f : Addr) (fd : FuncData), FnOk P w K mg base CX k f fd ps sp ∧ Binds K fd ps [] ∧ PySem.W.keepIn K (.ref f) = true ∧ mg x = some (.ref f)
section
variable {P : Program} {w : World} {K : PySem.W.Frag} {mg : Str → Option Value} {base : Heap} {CX : CXT} {k : Nat} {x : Str} {ps : List Str} {sp : Sp}
theorem Cal.up (c : Cal P w K mg base CX k x ps sp) {n : Nat} (h : k ≤ n) : Cal P w K mg base CX n x ps sp := by
  obtain ⟨f, fd, h1, h2, h3, h4⟩ := c.ex
  exact ⟨f, fd, h1.mono h, h2, h3, h4⟩
theorem Cal.of {st : Stmt} {q : Str} {f : Addr} {fd : FuncData} (F : Fun K x q st f fd) (h : FnOk P w K mg base CX k f fd ps sp) (b : Binds K fd ps []) (m : mg x = some (.ref f)) : Cal P w K mg base CX k x ps sp := ⟨f, fd, h, b, F.kp, m⟩
end
section
variable {X : Cx} {CX : CXT} {k : Nat} {ps : List Str} {sp : Sp} {E : XK} {x : Str} {p pos : Pos} {e : Expr} {es : List Expr} {t : TA}
theorem pe_cal (c : Cal X.prog X.w X.K X.mg X.base CX k x ps sp) (hr : Room k X.A) (hg : Gl X x) (hx : Passes CX X E) (ha : PA X (e :: es) t)
    (hdb : (x == ("__debug__" : Str)) = false := by decide) (he : starEach (e :: es) X.env = (false, eval e X.env) :: starEach es X.env := by exact star_of rfl) (hpl : (backTo pos (starEach es X.env)).any (·.1) = false := by rfl) :
    PE X (.Call (.Name x p) (e :: es) [] pos) (tCall sp [] E t) := by
  obtain ⟨f, fd, h1, h2, h3, h4⟩ := c.ex
  exact pe_call h1 hr hg h4 h3 h2 .nil hx ha hdb he hpl
theorem pe_calX {E : St → XK} (c : Cal X.prog X.w X.K X.mg X.base CX k x ps sp) (hr : Room k X.A) (hg : Gl X x) (hx : PassesX CX X E) (ha : PA X (e :: es) t)
    (hdb : (x == ("__debug__" : Str)) = false := by decide) (he : starEach (e :: es) X.env = (false, eval e X.env) :: starEach es X.env := by exact star_of rfl) (hpl : (backTo pos (starEach es X.env)).any (·.1) = false := by rfl) :
    PE X (.Call (.Name x p) (e :: es) [] pos) (tCallX sp E t) := by
  obtain ⟨f, fd, h1, h2, h3, h4⟩ := c.ex
  exact pe_callX h1 hr hg h4 h3 h2 hx ha hdb he hpl
end

/-! ### rows of a table by their place -/
theorem Pr.at {α β : Type} {R : α → β → Prop} : ∀ {xs : List α} {ys : List β} {i : Nat} {y : β}, Paired R xs ys → ys[i]? = some y → ∃ x, xs[i]? = some x ∧ R x y
  | _, _, 0, _, .cons h _, e => by cases e; exact ⟨_, rfl, h⟩
  | _, _, i + 1, _, .cons _ t, e => by
    have e' : _ := e
    rw [List.getElem?_cons_succ] at e'
    obtain ⟨x, h1, h2⟩ := Pr.at t e'
    exact ⟨x, by rw [List.getElem?_cons_succ]; exact h1, h2⟩
theorem tab_at {H : Hp} {as : List Addr} {rs : List Row} (h : RowsAt H as rs) {i : Int} (h0 : 0 ≤ i) (h1 : i < rs.length) : ∃ a r, atI (as.map V.ref) i = some (.ref a) ∧ RowAt H a r ∧ r ∈ rs ∧ rs[i.toNat]? = some r := by
  have hi : i.toNat < rs.length := by omega
  have e : rs[i.toNat]? = some rs[i.toNat] := List.getElem?_eq_getElem hi
  obtain ⟨a, ha, hR⟩ := Pr.at h e
  refine ⟨a, _, ?_, hR, List.getElem_mem hi, e⟩
  have z : atI (as.map V.ref) ((i.toNat : Nat) : Int) = some (.ref a) := atI_nat (by rw [List.getElem?_map, ha]; rfl)
  have e2 : ((i.toNat : Nat) : Int) = i := by omega
  rwa [e2] at z
theorem big20 {n : Nat} (h : n ≤ 100000) : n ≤ sizeLine := Nat.le_trans h (by decide)
theorem big20' {n : Nat} (h : n ≤ 100000) : n < sizeLine := Nat.lt_of_le_of_lt h (by decide)
theorem sized0 : Sized 0 := by unfold Sized; decide
theorem _root_.L2.Same.lst {K : PySem.W.Frag} {H H' : Hp} {a : Addr} {xs : List V} (e : Same H H') (h : SqL K H a xs) : SqL K H' a xs := by
  rcases h with (h | ⟨o, h⟩) | h
  · exact .inl (.inl (e _ _ h))
  · exact .inl (.inr ⟨o, e _ _ h⟩)
  · exact .inr h
theorem tab_mod {H : Hp} {as : List Addr} {rs : List Row} (h : RowsAt H as rs) (hn : 1 ≤ rs.length) (z : Int) : ∃ a r, atI (as.map V.ref) (z % ((as.map V.ref).length : Int)) = some (.ref a) ∧ RowAt H a r ∧ r ∈ rs := by
  have e : ((as.map V.ref).length : Int) = rs.length := by rw [List.length_map, Pr.length h]
  rw [e]
  obtain ⟨a, r, h1, h2, h3, _⟩ := tab_at h (i := z % rs.length) (Int.emod_nonneg _ (by omega)) (Int.emod_lt_of_pos _ (by omega))
  exact ⟨a, r, h1, h2, h3⟩
end Fb

/-! More rules: a sign some times. -/
namespace Fb
open PySem PySem.Spec PySem.Calls PyProof.Rows L2
end Fb

/-! Rules for texts: a sign in a text, a slice, int(text). -/
namespace Fb
open PySem PySem.Spec PySem.Calls PyProof.Rows L2
noncomputable def lettersT : Str := Str.ofString "abcdefghijklmnopqrstuvwxyz"
noncomputable def figuresT : Str := Str.ofString "0123456789"
theorem letters_list : lettersT.cps.toList = [97, 98, 99, 100, 101, 102, 103, 104, 105, 106, 107, 108, 109, 110, 111, 112, 113, 114, 115, 116, 117, 118, 119, 120, 121, 122] := by decide +kernel
theorem figures_list : figuresT.cps.toList = [48, 49, 50, 51, 52, 53, 54, 55, 56, 57] := by decide +kernel
theorem in_small {l : List Nat} {f : Nat → Bool} (h1 : ∀ c < 128, decide (c ∈ l) = f c) (h2 : ∀ c ∈ l, c < 128) (h3 : ∀ c, f c = true → c < 128) (c : Nat) : decide (c ∈ l) = f c := by
  by_cases h : c < 128
  · exact h1 c h
  · have a : c ∉ l := fun z => h (h2 c z)
    have b : f c = false := by cases e : f c with
      | false => rfl
      | true => exact absurd (h3 c e) h
    rw [b, decide_eq_false a]
theorem in_letters (c : Nat) : decide (c ∈ lettersT.cps.toList) = isLet c := by
  rw [letters_list]
  exact in_small (f := isLet) (by decide +kernel) (by decide +kernel) (fun c h => by unfold isLet at h; simp only [decide_eq_true_eq] at h; omega) c
theorem in_figures (c : Nat) : decide (c ∈ figuresT.cps.toList) = isFig c := by
  rw [figures_list]
  exact in_small (f := isFig) (by decide +kernel) (by decide +kernel) (fun c h => by unfold isFig at h; simp only [decide_eq_true_eq] at h; omega) c
/-- c in text, of one sign -/
theorem op_in_ch {X : Cx} : OpR X (compareOp .In) (fun x y H Q => ∃ (c : Nat) (j : Str), x = .str (txtOf [c]) ∧ y = .str j ∧ Q (.bl (decide (c ∈ j.cps.toList))) H) := by
  intro pins s σ H x y v u Q I rx ry h
  obtain ⟨c, j, rfl, rfl, q⟩ := h
  refine op_in_str pins s σ H _ _ v u Q I rx ry ⟨_, _, rfl, rfl, ?_⟩
  have e := PySem.StrLaws.found_one j c
  rw [show (!(Builtin.Str.occurrences j (txtOf [c]) 0 j.length 1).isEmpty) = decide (c ∈ j.cps.toList) from e]
  exact q
theorem op_notin_ch {X : Cx} : OpR X (compareOp .NotIn) (fun x y H Q => ∃ (c : Nat) (j : Str), x = .str (txtOf [c]) ∧ y = .str j ∧ Q (.bl (!decide (c ∈ j.cps.toList))) H) := by
  intro pins s σ H x y v u Q I rx ry h
  obtain ⟨c, j, rfl, rfl, q⟩ := h
  refine op_notin_str pins s σ H _ _ v u Q I rx ry ⟨_, _, rfl, rfl, ?_⟩
  have e := PySem.StrLaws.found_one j c
  rw [show (!(Builtin.Str.occurrences j (txtOf [c]) 0 j.length 1).isEmpty) = decide (c ∈ j.cps.toList) from e]
  exact q

/-! ### x[a:b] of a text -/
noncomputable def rSlS : V → Option Int → Option Int → Hp → VK → Prop := fun x lo hi H Q => ∃ (z : List Nat) (a b : Nat), x = .str (txtOf z) ∧ lo = some (a : Int) ∧ hi = some (b : Int) ∧ a ≤ b ∧ b ≤ z.length ∧ z.length ≤ sizeLine ∧ Q (.str (txtOf ((z.drop a).take (b - a)))) H
theorem sl_str {X : Cx} : SlR X rSlS := by
  intro pins s σ H x v vl vu lo hi sl Q I rx hs pl pu h
  obtain ⟨z, a, b, rfl, rfl, rfl, hab, hb, hz, q⟩ := h
  obtain ⟨t, rfl⟩ := rx
  cases pl with
  | int _ t1 =>
    cases pu with
    | int _ t2 =>
      refine ⟨"str", "str.__getitem__", PySem.F.slot_str_getitem.lookup, typeIs_str _ _ _, ?_⟩
      have hb' : b ≤ (txtOf z).length := by rw [txtOf_len]; exact hb
      have e1 : (slicePicked (txtOf z) (some ((a : Int), t1)) (some ((b : Int), t2)) none) = (List.range (b - a)).map (fun k => a + k) := StrLaws.strSliceIndices_plain hab hb'
      have e2 : (slicePicked (txtOf z) (some ((a : Int), t1)) (some ((b : Int), t2)) none).filterMap ((txtOf z).cps[·]?) = (z.drop a).take (b - a) := by
        have := StrLaws.sliced_plain (txtOf z) hab hb'
        rw [cps_txtOf] at this
        exact this
      refine wpAny_getItem_str_slice (l := some ((a : Int), t1)) (u := some ((b : Int), t2)) (st := none) hs rfl ?_
      unfold sliceMade
      split
      · rename_i c
        have c' : (slicePicked (txtOf z) (some ((a : Int), t1)) (some ((b : Int), t2)) none).length = (txtOf z).length := by simpa using c
        rw [e1, List.length_map, List.length_range, txtOf_len] at c'
        have ea : a = 0 := by omega
        have eb : b = z.length := by omega
        subst ea eb
        have ez : (z.drop 0).take (z.length - 0) = z := by simp
        rw [ez] at q
        exact ⟨.str _, H, I, ⟨_, rfl⟩, q⟩
      · show _ ≤ sizeLine ∧ _
        rw [e2]
        refine ⟨?_, .str _, H, I.tok _, ⟨_, rfl⟩, q⟩
        show (txtOf ((z.drop a).take (b - a))).length ≤ sizeLine
        rw [txtOf_len, List.length_take, List.length_drop]
        omega

/-! ### int(text) of figures -/
theorem figVal_val (w : List Nat) : figVal w = PySem.NumText.digitsVal w := by
  unfold figVal PySem.NumText.digitsVal
  have : ∀ (w : List Nat) (a : Nat), w.foldl (fun a c => 10 * a + (c - 48)) a = w.foldl (fun acc c => acc * 10 + (c - 48)) a := by
    intro w
    induction w with
    | nil => intro a; rfl
    | cons c r ih => intro a; rw [List.foldl_cons, List.foldl_cons, ih, Nat.mul_comm]
  exact this w 0
theorem call_int_text {X : Cx} : CallR X (.type "int") (fun xs H Q => ∃ w : List Nat, xs = [.str (txtOf w)] ∧ w ≠ [] ∧ (∀ c ∈ w, isFig c = true) ∧ w.length ≤ 640 ∧ Q (.int (figVal w)) H) := by
  intro pins s σ H xs us Q I r h
  obtain ⟨w, rfl, hn, hf, hl, q⟩ := h
  obtain ⟨u, rfl, ru⟩ := vals1 r
  obtain ⟨t, rfl⟩ := ru
  have e : PySem.intText? (txtOf w) = some ((figVal w : Nat) : Int) := by
    have := PySem.intText_digits (x := txtOf w) (by rw [cps_txtOf]; exact fun c hc => (by have := hf c hc; unfold isFig at this; simpa using this)) (by rw [cps_txtOf]; exact hn) (by rw [txtOf_len]; exact Nat.le_trans hl (by decide))
    rw [cps_txtOf, ← figVal_val] at this
    exact this
  exact PySem.W.KIN.call_text e (by rw [txtOf_len]; exact hl) ⟨.int _, H, I.tok _, ⟨_, rfl⟩, q⟩

/-- {x} of a text -/
noncomputable def tFmtS (te : TE) : TE := fun σ H Q => te σ H fun v H1 => ∃ x, v = .str x ∧ x.length ≤ sizeLine ∧ Q (.str x) H1
theorem pe_fmtS {X : Cx} {e : Expr} {t : TE} {pos : Pos} (he : PE X e t) : PE X (.FormattedValue e (-1) none pos) (tFmtS t) := fun pins s σ H Q I hw => by
  refine wpAny_FormattedValue_plain (wpAny_mono (he pins s σ H _ I hw) (fun v s₁ h₁ => ?_) fun _ _ z => z)
  obtain ⟨y, H1, I1, r1, x, rfl, hl, hq⟩ := h₁
  obtain ⟨tk, rfl⟩ := r1
  exact wpAny_formatField_str ⟨.str x, H1, I1, ⟨_, rfl⟩, hq⟩ ⟨.str x, H1, I1.tok _, ⟨_, rfl⟩, hq⟩ hl
/-- a text that is short enough to be told in an error -/
theorem repr_len {w : List Nat} (hl : w.length ≤ 20000) (ha : ∀ c ∈ w, c < 128) : (reprText (txtOf w)).length ≤ 200002 := by
  have h := PySem.StrLaws.reprText_len (txtOf w) (by rw [cps_txtOf]; exact fun c hc => Nat.lt_trans (ha c hc) (by decide))
  rw [txtOf_len] at h
  omega
theorem join3_ok {a b c : Str} (ha : a.length ≤ 300000) (hb : b.length ≤ 300000) (hc : c.length ≤ 300000) : (Str.empty ++ a).length ≤ sizeLine ∧ (Str.empty ++ a ++ b).length ≤ sizeLine ∧ (Str.empty ++ a ++ b ++ c).length ≤ sizeLine := by
  have e : Str.empty.length = 0 := rfl
  have z : ∀ n : Nat, n ≤ 1000000 → n ≤ sizeLine := fun n h => Nat.le_trans h (by decide)
  refine ⟨?_, ?_, ?_⟩
  · rw [strLen_append, e]; exact z _ (by omega)
  · rw [strLen_append, strLen_append, e]; exact z _ (by omega)
  · rw [strLen_append, strLen_append, strLen_append, e]; exact z _ (by omega)
end Fb

/-! The reader in the heap: its table, its parts, its signs that wait. -/
namespace Fb
open PySem PySem.Spec PySem.Calls PyProof.Rows L2
/-- all but these places stays as it is -/
noncomputable def ButL (L : List Addr) (H H' : Hp) : Prop := ∀ b u, b ∉ L → H b = some u → H' b = some u
theorem ButL.refl (L : List Addr) (H : Hp) : ButL L H H := fun _ _ _ h => h
theorem ButL.trans {L : List Addr} {H H' H'' : Hp} (a : ButL L H H') (b : ButL L H' H'') : ButL L H H'' := fun c u n h => b c u n (a c u n h)
theorem ButL.put {L : List Addr} {H H' : Hp} {p : Addr} (a : ButL L H H') (h : p ∈ L) (o : HO) : ButL L H (upd H' p o) := fun c u n e => by
  have hc : c ≠ p := fun z => n (by rw [z]; exact h)
  rw [upd_ne hc]; exact a c u n e
theorem ButL.new {L : List Addr} {H H' : Hp} {q : Addr} (a : ButL L H H') (h : H' q = none) (o : HO) : ButL L H (upd H' q o) := fun c u n e => by rw [upd_ne (ne_of_none (a c u n e) h)]; exact a c u n e
/-- the table's rows by their signs -/
noncomputable def DRows (H : Hp) (d : Addr) (rs : List Row) : Prop := ∃ kvs : List (Key × V), H d = some (.dK kvs) ∧ ∀ sg : Str, (sg ∈ signsOf rs → ∃ a, valV kvs (Sum.inr sg) = some (.ref a) ∧ H a = some (.tup [.int (rankOf rs sg), .str (sideOf rs sg)])) ∧ (sg ∉ signsOf rs → valV kvs (Sum.inr sg) = none)
theorem DRows.keep {H H' : Hp} {d : Addr} {rs : List Row} (h : DRows H d rs) (k1 : ∀ kvs, H d = some (.dK kvs) → H' d = some (.dK kvs)) (k2 : ∀ b xs, H b = some (.tup xs) → H' b = some (.tup xs)) : DRows H' d rs := by
  obtain ⟨kvs, h1, h2⟩ := h
  exact ⟨kvs, k1 _ h1, fun sg => ⟨fun m => let ⟨a, e1, e2⟩ := (h2 sg).1 m; ⟨a, e1, k2 _ _ e2⟩, (h2 sg).2⟩⟩
theorem DRows.same {H H' : Hp} {d : Addr} {rs : List Row} (h : DRows H d rs) (e : Same H H') : DRows H' d rs := h.keep (fun _ q => e _ _ q) fun _ _ q => e _ _ q
noncomputable def rdF (d pa wa : Addr) (due : Bool) : List (Str × V) := [("rows", .ref d), ("parts", .ref pa), ("waiting", .ref wa), ("part_due", .bl due)]
structure Raw (C : Addr) (rs : List Row) (H : Hp) (r dx d pa wa : Addr) (vs : List V) (ws : List Str) (due : Bool) : Prop where
  ins : H r = some (.ins C dx (rdF d pa wa due))
  par : H pa = some (.lst vs)
  wai : H wa = some (.lst (ws.map V.str))
  rows : DRows H d rs
  ne : pa ≠ wa
section
variable {C : Addr} {rs : List Row} {H H' : Hp} {r dx d pa wa : Addr} {vs : List V} {ws : List Str} {due : Bool}
theorem Raw.nrp (R : Raw C rs H r dx d pa wa vs ws due) : r ≠ pa := fun z => by have := R.ins; rw [z, R.par] at this; cases this
theorem Raw.nrw (R : Raw C rs H r dx d pa wa vs ws due) : r ≠ wa := fun z => by have := R.ins; rw [z, R.wai] at this; cases this
theorem Raw.tups (R : Raw C rs H r dx d pa wa vs ws due) (B : ButL [r, pa, wa] H H') : ∀ b xs, H b = some (.tup xs) → H' b = some (.tup xs) := fun b xs h => B b _ (fun z => by
  simp only [List.mem_cons, List.not_mem_nil, or_false] at z
  rcases z with z | z | z
  · rw [z, R.ins] at h; cases h
  · rw [z, R.par] at h; cases h
  · rw [z, R.wai] at h; cases h) h
theorem Raw.dks (R : Raw C rs H r dx d pa wa vs ws due) (B : ButL [r, pa, wa] H H') : ∀ b kvs, H b = some (.dK kvs) → H' b = some (.dK kvs) := fun b xs h => B b _ (fun z => by
  simp only [List.mem_cons, List.not_mem_nil, or_false] at z
  rcases z with z | z | z
  · rw [z, R.ins] at h; cases h
  · rw [z, R.par] at h; cases h
  · rw [z, R.wai] at h; cases h) h
theorem Raw.rowsB (R : Raw C rs H r dx d pa wa vs ws due) (B : ButL [r, pa, wa] H H') : DRows H' d rs := R.rows.keep (fun kvs h => R.dks B d kvs h) (R.tups B)
theorem Raw.setP (R : Raw C rs H r dx d pa wa vs ws due) (vs' : List V) : Raw C rs (upd H pa (.lst vs')) r dx d pa wa vs' ws due :=
  ⟨by rw [upd_ne R.nrp]; exact R.ins, upd_same, by rw [upd_ne R.ne.symm]; exact R.wai, R.rowsB ((ButL.refl _ H).put (by simp) _), R.ne⟩
theorem Raw.setW (R : Raw C rs H r dx d pa wa vs ws due) (ws' : List Str) : Raw C rs (upd H wa (.lst (ws'.map V.str))) r dx d pa wa vs ws' due :=
  ⟨by rw [upd_ne R.nrw]; exact R.ins, by rw [upd_ne R.ne]; exact R.par, upd_same, R.rowsB ((ButL.refl _ H).put (by simp) _), R.ne⟩
theorem put_due (d pa wa : Addr) (a b : Bool) : putF "part_due" (.bl b) (rdF d pa wa a) = rdF d pa wa b := by
  unfold rdF putF
  rw [if_neg (by decide +kernel)]
  unfold putF
  rw [if_neg (by decide +kernel)]
  unfold putF
  rw [if_neg (by decide +kernel)]
  unfold putF
  rw [if_pos rfl]
theorem Raw.setD (R : Raw C rs H r dx d pa wa vs ws due) (b : Bool) : Raw C rs (upd H r (.ins C dx (putF "part_due" (.bl b) (rdF d pa wa due)))) r dx d pa wa vs ws b :=
  ⟨by rw [upd_same, put_due], by rw [upd_ne R.nrp.symm]; exact R.par, by rw [upd_ne R.nrw.symm]; exact R.wai, R.rowsB ((ButL.refl _ H).put (by simp) _), R.ne⟩
theorem Raw.new (R : Raw C rs H r dx d pa wa vs ws due) {p : Addr} (h : H p = none) (o : HO) : Raw C rs (upd H p o) r dx d pa wa vs ws due :=
  ⟨by rw [upd_ne (ne_of_none R.ins h)]; exact R.ins, by rw [upd_ne (ne_of_none R.par h)]; exact R.par, by rw [upd_ne (ne_of_none R.wai h)]; exact R.wai, R.rowsB ((ButL.refl _ H).new h _), R.ne⟩
end
theorem Pr.unsnocR {α β : Type} {R : α → β → Prop} : ∀ {ys : List β} {xs : List α} {y : β}, Paired R xs (ys ++ [y]) → ∃ xs' x, xs = xs' ++ [x] ∧ Paired R xs' ys ∧ R x y
  | [], _, _, .cons h .nil => ⟨[], _, rfl, .nil, h⟩
  | _ :: ys, _, _, .cons h t => by
    obtain ⟨xs', x, e, p, q⟩ := Pr.unsnocR (ys := ys) t
    exact ⟨_ :: xs', x, by rw [e]; rfl, .cons h p, q⟩
theorem Pr.flip2 {α β : Type} {R : α → β → Prop} {ys : List β} {xs : List α} {a b : β} (h : Paired R xs (ys ++ [a, b])) : ∃ xs' c d, xs = xs' ++ [c, d] ∧ Paired R xs' ys ∧ R c a ∧ R d b := by
  have e : ys ++ [a, b] = (ys ++ [a]) ++ [b] := by simp
  rw [e] at h
  obtain ⟨x1, d, rfl, h1, h2⟩ := Pr.unsnocR h
  obtain ⟨x2, c, rfl, h3, h4⟩ := Pr.unsnocR h1
  exact ⟨x2, c, d, by simp, h3, h4, h2⟩
/-! ### the machine's state there -/
noncomputable def Fr.nm : Fr → Str
  | .op s _ => s
  | .par => "("
noncomputable def lefts : List Fr → List BT
  | [] => []
  | .op _ l :: r => lefts r ++ [l]
  | .par :: r => lefts r
noncomputable def waits : List Fr → List Str
  | [] => []
  | f :: r => waits r ++ [f.nm]
noncomputable def optL : Option BT → List BT
  | none => []
  | some b => [b]
noncomputable abbrev PT2 (H : Hp) : V → BT → Prop := fun v b => TreeAt H v b.erase
structure RsAt (C : Addr) (rs : List Row) (H : Hp) (r dx d pa wa : Addr) (m : MS) : Prop where
  ex : ∃ vs, Raw C rs H r dx d pa wa vs (waits m.stk) m.cur.isNone ∧ Paired (PT2 H) vs (lefts m.stk ++ optL m.cur)
theorem PT2.keep {H H' : Hp} (k : ∀ b xs, H b = some (.tup xs) → H' b = some (.tup xs)) {vs : List V} {bs : List BT} (h : Paired (PT2 H) vs bs) : Paired (PT2 H') vs bs := Pr.mono (fun v b q => TreeAt.keep k q) h
theorem waits_len : ∀ st : List Fr, (waits st).length = st.length
  | [] => rfl
  | f :: r => by show (waits r ++ [f.nm]).length = _; rw [List.length_append, waits_len r]; rfl
theorem lefts_len : ∀ st : List Fr, (lefts st).length ≤ st.length
  | [] => Nat.le_refl _
  | .op _ l :: r => by show (lefts r ++ [l]).length ≤ _; rw [List.length_append]; have := lefts_len r; simp; omega
  | .par :: r => Nat.le_succ_of_le (lefts_len r)
theorem sg_ne_br {rs : List Row} (hf : Fine rs) {s : Str} (h : s ∈ signsOf rs) : s ≠ (Str.ofString "(") ∧ s ≠ (Str.ofString ")") := by
  obtain ⟨n1, n2, _, _, e⟩ := sg_not_br hf h
  refine ⟨fun z => ?_, fun z => ?_⟩
  · rw [z] at n1; exact n1 (by decide +kernel)
  · rw [z] at n2; exact n2 (by decide +kernel)
end Fb
namespace Fb
open PySem PySem.Spec PySem.Calls PyProof.Rows L2
/-! ### a method called by its name -/
structure MCal (P : Program) (w : World) (K : PySem.W.Frag) (mg : Str → Option Value) (base : Heap) (CX : CXT) (k : Nat) (C : Addr) (m : Str) (ps : List Str) (sp : Sp) : Prop where
  ex : ∃ (f : Addr) (fd : FuncData), FnOk P w K mg base CX k f fd ps sp ∧ Binds K fd ps [] ∧ Meth K C m f
theorem MCal.up {P : Program} {w : World} {K : PySem.W.Frag} {mg : Str → Option Value} {base : Heap} {CX : CXT} {k n : Nat} {C : Addr} {m : Str} {ps : List Str} {sp : Sp} (c : MCal P w K mg base CX k C m ps sp) (h : k ≤ n) : MCal P w K mg base CX n C m ps sp := by
  obtain ⟨f, fd, h1, h2, h3⟩ := c.ex
  exact ⟨f, fd, h1.mono h, h2, h3⟩
section
variable {X : Cx} {CX : CXT} {k : Nat} {C : Addr} {ps : List Str} {sp : Sp} {E : XK} {m : Str} {apos pos : Pos} {o e : Expr} {es : List Expr} {ta : TE} {t : TA}
theorem pe_mcal {pl : Sem Bool} (he : PE X o ta) (c : Cls X.K C) (M : MCal X.prog X.w X.K X.mg X.base CX k C m ps sp) (hr : Room k X.A) (hx : Passes CX X E) (ha : PA X (e :: es) t)
    (hst : starEach (e :: es) X.env = (false, eval e X.env) :: starEach es X.env := by exact star_of rfl) (hpl : (backTo pos (starEach es X.env)).any (·.1) = false := by rfl)
    (ht : eval (.Call (.Attribute o m apos) (e :: es) [] pos) X.env = (do
      let ov ← eval o X.env
      standAt apos.atName
      let (f, first) ← holding [ov] (getMethod ov m pl)
      callWith pos f first (backTo pos (starEach (e :: es) X.env)) (backToKw pos (keywordEach [] X.env))) := by rfl) :
    PE X (.Call (.Attribute o m apos) (e :: es) [] pos) (tMeth C m sp [] E ta t) := by
  obtain ⟨f, fd, h1, h2, h3⟩ := M.ex
  exact pe_meth he c h3 h1 hr h2 .nil hx ha hst hpl ht
theorem pe_mcal0 {pl : Sem Bool} (he : PE X o ta) (c : Cls X.K C) (M : MCal X.prog X.w X.K X.mg X.base CX k C m ps sp) (hr : Room k X.A) (hx : Passes CX X E)
    (ht : eval (.Call (.Attribute o m apos) [] [] pos) X.env = (do
      let ov ← eval o X.env
      standAt apos.atName
      let (f, first) ← holding [ov] (getMethod ov m pl)
      callWith pos f first (backTo pos (starEach [] X.env)) (backToKw pos (keywordEach [] X.env))) := by rfl) :
    PE X (.Call (.Attribute o m apos) [] [] pos) (tMeth C m sp [] E ta tNil) := by
  obtain ⟨f, fd, h1, h2, h3⟩ := M.ex
  exact pe_meth0 he c h3 h1 hr h2 .nil hx ht
end
end Fb

/-! Rules for writing: sep.join(xs), list(reversed(xs)). -/
namespace Fb
open PySem PySem.Spec PySem.Calls PyProof.Rows L2
noncomputable def glueL (sep : List Nat) : List (List Nat) → List Nat
  | [] => []
  | x :: r => x ++ (r.map fun y => sep ++ y).flatten
theorem glue_fold (sep : List Nat) : ∀ (r : List (List Nat)) (a : List Nat), (r.map txtOf).foldl (fun acc p => acc ++ (txtOf sep).cps ++ p.cps) a.toArray = (a ++ (r.map fun y => sep ++ y).flatten).toArray
  | [], a => by simp
  | y :: r, a => by
    rw [List.map_cons, List.foldl_cons]
    have e : a.toArray ++ (txtOf sep).cps ++ (txtOf y).cps = (a ++ sep ++ y).toArray := by simp [txtOf]
    rw [e, glue_fold sep r]
    simp
theorem glued_txt (sep : List Nat) (l : List (List Nat)) : Builtin.Str.glued (txtOf sep) (l.map txtOf) = txtOf (glueL sep l) := by
  cases l with
  | nil => rfl
  | cons x r =>
    show (⟨(r.map txtOf).foldl (fun acc p => acc ++ (txtOf sep).cps ++ p.cps) x.toArray⟩ : Str) = _
    rw [glue_fold]; rfl
theorem texts_are : ∀ {zs : List (List Nat)} {its : List Value}, Vals (zs.map fun z => V.str (txtOf z)) its → ∃ l : List (Str × PySem.Tok), its = strValues l ∧ l.map (·.1) = zs.map txtOf
  | [], _, .nil => ⟨[], rfl, rfl⟩
  | z :: zs, _, .cons h t => by
    obtain ⟨l, e1, e2⟩ := texts_are t
    obtain ⟨tk, rfl⟩ := (show ∃ tk, _ = Value.str (txtOf z) tk from h)
    exact ⟨(txtOf z, tk) :: l, by rw [e1]; rfl, by rw [List.map_cons, e2]; rfl⟩
theorem fold_sum (k : Nat) : ∀ (l : List (List Nat)) (a : Nat), (l.map txtOf).foldl (fun n z => n + z.length + k) a = a + (l.map fun z => z.length + k).sum
  | [], a => by simp
  | z :: l, a => by
    rw [List.map_cons, List.foldl_cons, fold_sum k l, List.map_cons, List.sum_cons, txtOf_len]
    omega
theorem glue_len (sep : List Nat) : ∀ l : List (List Nat), (glueL sep l).length ≤ (l.map fun z => z.length + sep.length).sum := by
  have h : ∀ r : List (List Nat), (r.map fun y => sep ++ y).flatten.length = (r.map fun z => z.length + sep.length).sum := by
    intro r
    induction r with
    | nil => rfl
    | cons y r ih => rw [List.map_cons, List.flatten_cons, List.length_append, ih, List.map_cons, List.sum_cons, List.length_append]; omega
  intro l
  cases l with
  | nil => exact Nat.zero_le _
  | cons x r =>
    show (x ++ (r.map fun y => sep ++ y).flatten).length ≤ _
    rw [List.length_append, h, List.map_cons, List.sum_cons]
    omega
noncomputable def rJoin : V → List V → Hp → VK → Prop := fun x vs H Q => ∃ (sep : List Nat) (l : Addr) (zs : List (List Nat)), x = .str (txtOf sep) ∧ vs = [.ref l] ∧ H l = some (.lst (zs.map fun z => V.str (txtOf z))) ∧ (zs.map fun z => z.length + sep.length).sum ≤ 1000000 ∧ Q (.str (txtOf (glueL sep zs))) H
theorem mt_join {X : Cx} : MtM X "str.join" rJoin := by
  intro pins s σ H x vs v us Q I rx rv h
  obtain ⟨sep, l, zs, rfl, rfl, hH, hz, q⟩ := h
  obtain ⟨t, rfl⟩ := (show ∃ t, v = Value.str (txtOf sep) t from rx)
  obtain ⟨u, rfl, ru⟩ := rv.one
  cases (show u = Value.ref l from ru)
  obtain ⟨_, its, n, r1, _, e⟩ := I.lstM hH
  obtain ⟨ls, e1, e2⟩ := texts_are r1
  subst e1
  have big : ∀ m : Nat, m ≤ 1000000 → m ≤ sizeLine := fun m hm => Nat.le_trans hm (by decide)
  have hsum : (ls.map (·.1)).toArray.foldl (fun n z => n + z.length + (txtOf sep).length) 0 = (zs.map fun z => z.length + sep.length).sum := by
    rw [e2, txtOf_len]
    have := fold_sum sep.length zs 0
    simpa using this
  refine call_meets PySem.F.slot_str_join (typeIs_str _ _ _) PySem.F.entry_str_join (PySem.F.args_str_join_2 _ _) (meets_str_join_list (txtOf sep) t l ls ?_) ⟨⟨_, e, rfl, n, rfl⟩, ?_⟩
  · show Builtin.Str.tooLong ((ls.map (·.1)).toArray.foldl (fun n z => n + z.length + (txtOf sep).length) 0) = false
    rw [hsum]
    unfold Builtin.Str.tooLong
    have := big _ hz
    simpa using this
  · have gl : txtOf (glueL sep zs) = Builtin.Str.glued (txtOf sep) (ls.map (·.1)) := by rw [e2, glued_txt]
    have hlen : (txtOf (glueL sep zs)).length ≤ sizeLine := by rw [txtOf_len]; exact big _ (Nat.le_trans (glue_len sep zs) hz)
    cases ls with
    | nil =>
      refine ⟨?_, .str _, H, I.tok _, ⟨_, rfl⟩, ?_⟩
      · rw [gl] at hlen; exact hlen
      · rw [gl] at q; exact q
    | cons p r => cases r with
      | nil =>
        refine ⟨.str _, H, I, ⟨_, rfl⟩, ?_⟩
        have ez : zs.map txtOf = [p.1] := by rw [← e2]; rfl
        cases zs with
        | nil => cases ez
        | cons z zs => cases zs with
          | nil =>
            have ez' : txtOf z = p.1 := by simpa using ez
            rw [← ez']
            have : glueL sep [z] = z := by show z ++ [] = z; simp
            rw [this] at q
            exact q
          | cons y zs => simp at ez
      | cons p2 r =>
        refine ⟨?_, .str _, H, I.tok _, ⟨_, rfl⟩, ?_⟩
        · rw [gl] at hlen; exact hlen
        · rw [gl] at q; exact q

/-! ### list(reversed(xs)) -/
section
variable {prog : Program} {w : World} {A : Around} {E : Value → Shared → Prop} {s : Shared}
end
end Fb

/-! [e for t in xs if c]: a list by a comprehension of one clause, its own names and those of the def about it. -/
namespace Fb
open PySem PySem.Spec PySem.Calls PyProof.Rows L2

/-- the context of a comprehension's block -/
noncomputable def compCx (X : Cx) (sc : Scope) (cl : List (Str × Addr)) (N : List Str) (C : Addr) (s : Shared) (H : Hp) (fp : List Addr) : Cx :=
  { X with N := N, s₀ := s, H₀ := H, env := compEnvC sc cl C X.env, outer := X.stack, ex := fp, fn := fun _ => false, pn := [], xe := fun _ _ => False }
/-- what is asked of the block's names: Nl its own, Nf the def's (cells there, at the places js) -/
structure CompSc (X : Cx) (sc : Scope) (cl : List (Str × Addr)) (Nl Nf : List Str) (js : List Nat) : Prop where
  clos : closureFor sc X.env = pure cl
  nocell : ∀ y ∈ sc.names, y.2 ≠ .cell
  kind : sc.kind = .function
  names : ∀ y ∈ sc.names, y.2 = .local → sc.names.lookup y.1 = some .local
  cls : ∀ x c, cl.lookup x = some c → X.env.cells.lookup x = some c
  has : ∀ x, ((relabel sc X.env).names.lookup x = some .cell ∨ (relabel sc X.env).names.lookup x = some .free) → ∃ c, cl.lookup x = some c
  len : js.length = Nf.length
  fre : ∀ (k : Nat) (x : Str), Nf[k]? = some x → ∃ j, js[k]? = some j ∧ X.N[j]? = some x ∧ X.env.scope.names.lookup x = some .cell ∧ (relabel sc X.env).names.lookup x = some .cell
noncomputable def compSt (n : Nat) (js : List Nat) (σ : St) : St := List.replicate n none ++ js.map fun j => (σ[j]?).getD none

section
variable {X : Cx} {sc : Scope} {cl : List (Str × Addr)} {Nl Nf : List Str} {js : List Nat} {pins : List (Addr × Obj)} {σ : St} {H : Hp} {s : Shared} {fp : List Addr}
theorem inv_comp {h₁ : Heap} {tk : Nat} {od : Obj} {m0 : Str → Option Value} (S : CompSc X sc cl Nl Nf js) (I : Inv X pins σ H s) (hf : ∀ b ∈ fp, FpOk X pins H b) (ho : ∀ b ∈ fp, b < s.heap.objs.size)
    (hns : h₁.Ns s.heap.objs.size m0) (hsb : Heap.SameBut s.heap.objs.size (s.heap.push od) h₁) :
    Inv (compCx X sc cl (Nl ++ Nf) s.heap.objs.size s H fp) [] (compSt Nl.length js σ) H { s with heap := h₁, toks := tk } := by
  have hk : ∀ b o, s.heap.get? b = some o → h₁.get? b = some o := fun b o e => (hsb.2 b (Nat.ne_of_lt (Heap.lt_size e))).trans (Heap.get?_push_of_some _ e)
  refine ⟨⟨I.ok.mod, S.kind, I.ok.glob, I.ok.blt, Nat.le_refl _, fun x y c h1 h2 => I.ok.inj x y c (S.cls x c h1) (S.cls y c h2), S.has, fun x c hf _ => (by cases hf), I.ok.hd, I.ok.frames, .inl rfl, fun b hb => ⟨Nat.ne_of_lt (ho b hb), fun x c e => (hf b hb).2.2.2.2.1 x c (S.cls x c e)⟩,
      I.bs, Nat.le_trans I.ok.bsz I.sz, fun b o e hb => ?_, fun b hb hm => ?_, I.stack, I.stkFree⟩,
    rfl, I.bare, Un.kept hk, ⟨m0, hns, fun i x v e1 e2 vis => ?_⟩, fun x c e => ?_, I.hok.fresh (Nat.le_refl _), fun x c e => I.freeC x c (S.cls x c e), fun p hp => absurd (show p ∈ ([] : List (Addr × Obj)) from hp) (by simp), I.hok.kept hk, ?_⟩
  · rcases (hf b hb).2.2.2.1 with z | z
    · exact I.ok.noex b o e z
    · have h1 := Heap.lt_size e
      have h2 := I.ok.bsz
      exact absurd (Nat.lt_of_lt_of_le h1 (Nat.le_trans h2 z)) (Nat.lt_irrefl _)
  · rcases List.mem_cons.mp (I.stkSub b hm) with z | z
    · exact (hf b hb).2.1 z
    · exact (hf b hb).2.2.1 z
  · have e1' : (Nl ++ Nf)[i]? = some x := e1
    unfold compSt at e2
    by_cases hi : i < Nl.length
    · rw [List.getElem?_append_left (by simpa using hi), List.getElem?_replicate, if_pos hi] at e2
      cases e2
    · rw [List.getElem?_append_right (by omega)] at e1'
      rw [List.getElem?_append_right (by simpa using Nat.not_lt.mp hi), List.length_replicate, List.getElem?_map] at e2
      obtain ⟨j, hj, hN, hc, hc'⟩ := S.fre _ _ e1'
      rw [hj] at e2
      have e2' : (σ[j]?).getD none = some v := Option.some.inj e2
      have e3 : σ[j]? = some (some v) := by
        cases q : σ[j]? with
        | none => rw [q] at e2'; cases e2'
        | some o => rw [q] at e2'; exact congrArg some e2'
      obtain ⟨m, hn, hl⟩ := I.loc
      obtain ⟨u, r, l⟩ := hl j x v hN e3 (.inr (.inl hc))
      refine ⟨u, r, ?_⟩
      rcases l with ⟨k, _⟩ | ⟨_, c, e, z⟩
      · have k' : X.env.scope.names.lookup x = some .local := k
        rw [hc] at k'; cases k'
      · obtain ⟨c', hcl⟩ := S.has x (.inl hc')
        have := S.cls x c' hcl
        rw [e] at this; cases this
        obtain ⟨ob, z1, z2⟩ := z
        exact .inr ⟨.inl hc', c, hcl, ob, hk _ _ z1, z2⟩
  · obtain ⟨v, ob, z1, z2⟩ := I.cell x c (S.cls x c e)
    exact ⟨v, ob, hk _ _ z1, z2⟩
  · show (compSt Nl.length js σ).length = (Nl ++ Nf).length
    unfold compSt
    rw [List.length_append, List.length_replicate, List.length_map, List.length_append, S.len]
/-- behind the block -/
theorem comp_done {σc : St} {H3 H' : Hp} {s3 s4 : Shared} {h' : Heap} {N : List Str} (I : Inv X pins σ H3 s3) (hf : ∀ b ∈ fp, FpOk X pins H3 b) (J : Inv (compCx X sc cl N s3.heap.objs.size s3 H3 fp) [] σc H' s4) (hs : Heap.SameBut s3.heap.objs.size s4.heap h') :
    Inv X pins σ H' { s4 with heap := h' } := by
  have hk : ∀ b o, b ≠ s3.heap.objs.size → s4.heap.get? b = some o → h'.get? b = some o := fun b o n e => (hs.2 b n).trans e
  have old : ∀ b o, s3.heap.get? b = some o → b ≠ s3.heap.objs.size := fun b o e => Nat.ne_of_lt (Heap.lt_size e)
  refine I.call' (s' := { s4 with heap := h' }) (ch := fp) J.os ⟨fun b o e n hb hx => ?_, fun b o e n hb hx => ?_, J.base.free, fun b o e hx => ?_, J.base.tups, J.base.frzs, J.base.tbls⟩ (fun b o e => ?_) J.bare fun b hb => ?_
  · exact hk b o (old b o e) (J.base.keep b o e n hb hx)
  · obtain ⟨sl, q⟩ := J.base.slot b o e n hb hx
    exact ⟨sl, hk b _ (old b o e) q⟩
  · obtain ⟨o', q⟩ := J.base.there b o e hx
    exact ⟨o', hk b _ (old b o e) q⟩
  · have nC : ∀ c u, H' c = some u → c ≠ s3.heap.objs.size := fun c u q z => by
      have := J.free
      rw [show (compCx X sc cl N s3.heap.objs.size s3 H3 fp).env.locals = s3.heap.objs.size from rfl, ← z, q] at this
      cases this
    refine (J.hok b o e).stay (fun c u hc q => hk c u ?_ q) (fun _ q => q) fun _ _ q => q
    rcases hc with rfl | hc
    · exact nC _ _ e
    · exact nC _ _ hc
  · obtain ⟨f0, f1, f2, f3, f4, f5⟩ := hf b hb
    exact ⟨f3, f1, f4, f5⟩
end

/-! ### the loop -/
section
variable {prog : Program} {w : World} {A : Around} {R : Result → Shared → Prop} {s : Shared}
theorem compLoop_gen {elt target iter : Expr} {ifs : List Expr} {scope : Scope} {pos : Pos} {it acc : Value} {env : Env} (I : Nat → Shared → Prop)
    (turn : ∀ n s, I n s → wpAny (model prog w) A (pyNext it) (fun r s₁ => match r with
      | none => R (.ok .next) s₁
      | some v => wpAny (model prog w) A (letOwnedTupleGo target it v) (fun _ s₁' => wpAny (model prog w) A (assign target env v) (fun _ s₂ =>
          wpAny (model prog w) A (forIn ifs true fun c r => if r = true then do let ok ← isTrue c env (eval c env); pure (ForInStep.yield ok) else pure (ForInStep.yield r)) (fun ok s₃ =>
            if ok = true then wpAny (model prog w) A (eval elt env) (fun x s₄ =>
              wpAny (model prog w) A (call (.builtin "list.append") [acc, x]) (fun _ s₅ => ∃ m, m < n ∧ I m s₅) (fun _ _ => False) s₄) (fun _ _ => False) s₃
            else ∃ m, m < n ∧ I m s₃) (fun _ _ => False) s₂) (fun _ _ => False) s₁') (fun _ _ => False) s₁) (fun _ _ => False) s)
    (n : Nat) (h : I n s) :
    codeAny (model prog w) A (.compLoop (.ListComp elt [⟨target, iter, ifs, 0⟩] scope pos) 0 it acc env) R s := by
  refine codeAny_loop rfl I (fun n s hI => ?_) n h
  show wpAny _ A ((compTurn (.ListComp elt [⟨target, iter, ifs, 0⟩] scope pos) 0 it acc env).onRaise (fun x => do noteFrame x env; theTreesLotGoes x)) _ _ s
  refine wpAny_noted ?_
  rw [compTurn_list]
  refine wpAny_bind (wpAny_standAt (wpAny_bind (wpAny_mono (turn n s hI) (fun r s₁ h₁ => ?_) fun _ _ h' => h'.elim)))
  cases r with
  | none => exact wpAny_pure h₁
  | some v =>
    refine wpAny_bind (wpAny_mono h₁ (fun _ s₁' h₁' => ?_) fun _ _ h' => h'.elim)
    refine wpAny_bind (wpAny_mono h₁' (fun _ s₂ h₂ => wpAny_bind (wpAny_mono h₂ (fun ok s₃ h₃ => ?_) fun _ _ h' => h'.elim)) fun _ _ h' => h'.elim)
    cases ok with
    | false => exact wpAny_pure ⟨rfl, h₃⟩
    | true =>
      exact wpAny_bind (wpAny_bind (wpAny_mono h₃ (fun x s₄ h₄ => wpAny_bind (wpAny_mono h₄ (fun _ s₅ h₅ => wpAny_pure (wpAny_pure ⟨rfl, h₅⟩)) fun _ _ h' => h'.elim)) fun _ _ h' => h'.elim))
end
/-- the tests of a clause -/
noncomputable def PTs (X : Cx) (ifs : List Expr) (t : TT) : Prop := ∀ (pins : List (Addr × Obj)) (s : Shared) (σ : St) (H : Hp) (Q : Bool → Hp → Prop), Inv X pins σ H s → t σ H Q →
  wpAny (model X.prog X.w) X.A (forIn ifs true fun c r => if r = true then do let ok ← isTrue c X.env (eval c X.env); pure (ForInStep.yield ok) else pure (ForInStep.yield r)) (TP X pins σ Q) X.xe s
noncomputable def tNoTest : TT := fun _ H Q => Q true H
theorem pts_nil {X : Cx} : PTs X [] tNoTest := fun pins s σ H Q I h => wpAny_tests_nil ⟨H, I, h⟩
/-- W: the invariant, by the turn and a measure, of the block's names and the heap; D: the list -/
noncomputable def tComp (wi : TI) (n : Nat) (js : List Nat) (g : TG) (tt : TT) (te : TE) : TE := fun σ H Q => wi σ H fun J H1 => ∀ D, H1 D = none → ∃ W : Nat → Nat → St → Hp → Prop, (∃ m, W 0 m (compSt n js σ) (upd H1 D (.lst []))) ∧ ∀ i m σc Hc, W i m σc Hc →
  (J.stop i Hc ∧ Q (.ref D) Hc) ∨ (J.go i Hc ∧ ∃ N : St → Hp → Prop, (∀ σ' H', N σ' H' → ∃ m', m' < m ∧ W (i + 1) m' σ' H') ∧ ∀ x H', J.yld i Hc x H' → g x σc H' fun σ2 H2 => tt σ2 H2 fun b H3 =>
    if b = true then te σ2 H3 fun y H4 => ∃ ys, H4 D = some (.lst ys) ∧ ys.length < sizeLine ∧ N σ2 (upd H4 D (.lst (ys ++ [y]))) else N σ2 H3)
theorem comp_gen {X : Cx} {elt target iter : Expr} {ifs : List Expr} {sc : Scope} {cl : List (Str × Addr)} {Nl Nf : List Str} {js : List Nat} {pos pos' : Pos} {wi : TI} {g : TG} {tt : TT} {te : TE} {use : Option (Value → Sem Unit)} {Qv : Value → Shared → Prop} {pins : List (Addr × Obj)} {s : Shared} {σ : St} {H : Hp} {Q : VK} (hc : X.calm = true) (S : CompSc X sc cl Nl Nf js) (hi : PI X target iter wi)
    (hg : ∀ C s H fp, PG (compCx X sc cl (Nl ++ Nf) C s H fp) target g) (ht : ∀ C s H fp, PTs (compCx X sc cl (Nl ++ Nf) C s H fp) ifs tt) (he : ∀ C s H fp, PE (compCx X sc cl (Nl ++ Nf) C s H fp) elt te)
    (hs : ∀ x, foldedSetIterable iter X.env x = pure x) (I : Inv X pins σ H s) (h : tComp wi Nl.length js g tt te σ H Q)
    (fin : ∀ (D C : Addr) (H5 : Hp) (s6 : Shared) (m : Str → Option Value), s6.heap.Ns C m → FpOk X pins H5 C → (∀ h', Heap.SameBut C s6.heap h' → Inv X pins σ H5 { s6 with heap := h' }) → Q (.ref D) H5 → compPost (model X.prog X.w) X.A X.xe use Qv (.ref D) C (.ok .next) s6) :
    wpAny (model X.prog X.w) X.A (comprehension (.ListComp elt [⟨target, iter, ifs, 0⟩] sc pos) sc X.env pos' (newList []) false (eval iter X.env) use) Qv X.xe s := by
  refine wpAny_comprehension_free (use := use) rfl hs S.clos S.kind S.names (thn (hi pins s σ H _ I h) fun v s1 h1 => thn h1 fun itv s2 h2 => ?_)
  obtain ⟨it, fp, tn, J, H2, rfl, I2, T, st2, f2, h2⟩ := h2
  refine wpAny_newObj_type (wpAny_newFunctionEnv S.nocell (by intro y hy; simp at hy) (fun h₁ hns hsb => ?_) S.kind)
  dsimp only at hns hsb ⊢
  have hD : H2 s2.heap.objs.size = none := I2.hok.fresh (Nat.le_refl _)
  obtain ⟨W, ⟨m0, w0⟩, turn⟩ := h2 s2.heap.objs.size hD
  have I3 : Inv X pins σ (upd H2 s2.heap.objs.size (.lst [])) { s2 with heap := s2.heap.push { cls := .type "list", data := .seq ([] : List Value).toArray }, toks := s2.toks } := I2.lnew (ys := []) (its := []) .nil (Nat.zero_le _)
  have hlt : ∀ b ∈ fp, b < s2.heap.objs.size := fun b hb => by obtain ⟨o, e, _⟩ := T.obj _ _ st2 b hb; exact Heap.lt_size e
  have f3 : ∀ b ∈ fp, FpOk X pins (upd H2 s2.heap.objs.size (.lst [])) b := fun b hb => ⟨by rw [upd_ne (Nat.ne_of_lt (hlt b hb))]; exact (f2 b hb).1, (f2 b hb).2⟩
  have hk1 : ∀ b o, (s2.heap.push { cls := .type "list", data := .seq ([] : List Value).toArray }).get? b = some o → h₁.get? b = some o := fun b o e => (hsb.2 b (Nat.ne_of_lt (Heap.lt_size e))).trans (Heap.get?_push_of_some _ e)
  have st3 : tn 0 h₁ := T.keep _ _ _ st2 fun b hb o e => hk1 b o (Heap.get?_push_of_some _ e)
  have hlt3 : ∀ b ∈ fp, b < (s2.heap.push { cls := .type "list", data := .seq ([] : List Value).toArray }).objs.size := fun b hb => by rw [Heap.size_push]; exact Nat.lt_succ_of_lt (hlt b hb)
  have IC := inv_comp (tk := s2.toks + ([] : List (Str × Value)).length) S I3 f3 hlt3 hns hsb
  have loop : ∀ s4 : Shared, s4 = { s2 with heap := h₁, toks := s2.toks + ([] : List (Str × Value)).length } →
      codeAny (model X.prog X.w) X.A (.compLoop (.ListComp elt [⟨target, iter, ifs, 0⟩] sc pos) 0 (.ref it) (.ref s2.heap.objs.size) (compEnvC sc cl (s2.heap.push { cls := .type "list", data := .seq ([] : List Value).toArray }).objs.size X.env))
        (compPost (model X.prog X.w) X.A X.xe use Qv (.ref s2.heap.objs.size) (s2.heap.push { cls := .type "list", data := .seq ([] : List Value).toArray }).objs.size) s4 := by
    rintro s4 rfl
    have S0 := S
    generalize hY : compCx X sc cl (Nl ++ Nf) (s2.heap.push { cls := .type "list", data := .seq ([] : List Value).toArray }).objs.size { s2 with heap := s2.heap.push { cls := .type "list", data := .seq ([] : List Value).toArray }, toks := s2.toks } (upd H2 s2.heap.objs.size (.lst [])) fp = Y at IC
    have stat : ∀ {H' : Hp}, (∀ b ∈ fp, H' b = none) → ∀ b ∈ fp, FpOk Y [] H' b := fun hn b hb => by
      subst hY
      exact ⟨hn b hb, Nat.ne_of_lt (hlt3 b hb), fun z => (by rcases List.mem_cons.mp (I3.stkSub b z) with q | q; exact (f3 b hb).2.1 q; exact (f3 b hb).2.2.1 q), .inl hb, fun x c e => (f3 b hb).2.2.2.2.1 x c (S.cls x c e), fun p hp => absurd (show p ∈ ([] : List (Addr × Obj)) from hp) (by simp)⟩
    have hgY : PG Y target g := by subst hY; exact hg _ _ _ _
    have htY : PTs Y ifs tt := by subst hY; exact ht _ _ _ _
    have heY : PE Y elt te := by subst hY; exact he _ _ _ _
    have e1 : Y.prog = X.prog := by subst hY; rfl
    have e2 : Y.w = X.w := by subst hY; rfl
    have e3 : Y.K = X.K := by subst hY; rfl
    have e4 : Y.calm = true := by subst hY; exact hc
    have e5 : Y.A = X.A := by subst hY; rfl
    have e6 : Y.env = compEnvC sc cl (s2.heap.push { cls := .type "list", data := .seq ([] : List Value).toArray }).objs.size X.env := by subst hY; rfl
    have e7 : Y.xe = fun _ _ => False := by subst hY; rfl
    refine compLoop_gen (fun n s' => ∃ i σ' H', Inv Y [] σ' H' s' ∧ tn i s'.heap ∧ (∀ b ∈ fp, H' b = none) ∧ W i n σ' H') ?_ m0 ⟨0, _, _, IC, st3, fun b hb => (f3 b hb).1, w0⟩
    rintro n s5 ⟨i, σ5, H5, I5, st5, fr5, w5⟩
    rcases turn i n σ5 H5 w5 with ⟨stop, qn⟩ | ⟨go, N, hN, step⟩
    · have q := T.done Y e1 e2 e3 e4 i [] s5 σ5 H5 (fun _ _ => False) I5 (stat fr5) st5 stop
      rw [e5] at q
      refine thn q fun r s6 ⟨hr, I6⟩ => ?_
      subst hr
      subst hY
      obtain ⟨m, hn, _⟩ := I6.loc
      exact fin _ _ H5 s6 m hn (I3.fpOk (Nat.le_refl _) I6.free) (fun h' hs' => comp_done I3 f3 I6 hs') qn
    · have q := T.item Y e1 e2 e3 e4 i [] s5 σ5 H5 (fun _ _ => False) I5 (stat fr5) st5 go
      rw [e5] at q
      refine thn q fun r s6 ⟨u, hr, h6⟩ => ?_
      subst hr
      refine thn h6 fun _ s7 ⟨x, H7, I7, r7, y7, st7, fr7⟩ => ?_
      have I7' := I7.pinned (stat fr7) (T.obj _ _ st7)
      have a1 := hgY _ s7 σ5 H7 x u _ I7' r7 (step x H7 y7)
      rw [e1, e2, e5, e6, e7] at a1
      refine thn a1 fun _ s8 ⟨σ8, H8, I8, q8⟩ => ?_
      have a2 := htY _ s8 σ8 H8 _ I8 q8
      rw [e1, e2, e5, e6, e7] at a2
      refine thn a2 fun b s9 ⟨H9, I9, q9⟩ => ?_
      have again : ∀ {σ7 : St} {H' : Hp} {s' : Shared}, Inv Y ([] ++ pinsAt fp s7.heap) σ7 H' s' → N σ7 H' → ∃ m, m < n ∧ ∃ i σ' H', Inv Y [] σ' H' s' ∧ tn i s'.heap ∧ (∀ b ∈ fp, H' b = none) ∧ W i m σ' H' := fun {σ7 H' s'} I' n' => by
        obtain ⟨m', hm, w'⟩ := hN σ7 H' n'
        refine ⟨m', hm, i + 1, σ7, H', I'.unpinned, T.keep _ _ _ st7 fun b hb o e => (I'.pin (b, o) (List.mem_append_right _ (List.mem_append_right _ (mem_pinsAt hb e)))).1, fun b hb => ?_, w'⟩
        obtain ⟨o, e, d⟩ := T.obj _ _ st7 b hb
        exact (I'.pin (b, o) (List.mem_append_right _ (List.mem_append_right _ (mem_pinsAt hb e)))).2.1
      cases b with
      | false =>
        have q9' : N σ8 H9 := by simpa using q9
        show if false = true then _ else _
        rw [if_neg Bool.false_ne_true]
        exact again I9 q9'
      | true =>
        rw [if_pos rfl] at q9
        show if true = true then _ else _
        rw [if_pos rfl]
        have a3 := heY _ s9 σ8 H9 _ I9 q9
        rw [e1, e2, e5, e6, e7] at a3
        refine thn a3 fun y s10 ⟨yv, H10, I10, r10, ys, hD10, hl10, n10⟩ => ?_
        have a4 := mt_append (X := Y) _ s10 σ8 H10 (.ref s2.heap.objs.size) [yv] (.ref s2.heap.objs.size) [y] (fun _ H' => N σ8 H') I10 rfl (.cons r10 .nil) ⟨_, ys, yv, rfl, rfl, hD10, hl10, n10⟩
        rw [e1, e2, e5, e7] at a4
        exact thn a4 fun _ s11 ⟨_, H11, I11, _, n11⟩ => again I11 n11
  exact codeAny_compStart_list (loop _ rfl) (T.self _ 0 _ _ _ st3 (loop _ rfl))
theorem pe_comp {X : Cx} {elt target iter : Expr} {ifs : List Expr} {sc : Scope} {cl : List (Str × Addr)} {Nl Nf : List Str} {js : List Nat} {pos : Pos} {wi : TI} {g : TG} {tt : TT} {te : TE} (hc : X.calm = true) (S : CompSc X sc cl Nl Nf js) (hi : PI X target iter wi)
    (hg : ∀ C s H fp, PG (compCx X sc cl (Nl ++ Nf) C s H fp) target g) (ht : ∀ C s H fp, PTs (compCx X sc cl (Nl ++ Nf) C s H fp) ifs tt) (he : ∀ C s H fp, PE (compCx X sc cl (Nl ++ Nf) C s H fp) elt te)
    (hs : ∀ x, foldedSetIterable iter X.env x = pure x := by intro _; rfl) : PE X (.ListComp elt [⟨target, iter, ifs, 0⟩] sc pos) (tComp wi Nl.length js g tt te) := by
  intro pins s σ H Q I h
  rw [eval_ListComp]
  exact comp_gen (use := none) hc S hi hg ht he hs I h fun D C H5 s6 m hn _ k q => ⟨m, hn, fun h' hs' => ⟨.ref D, H5, k h' hs', rfl, q⟩⟩
end Fb

namespace Fb
open PySem PySem.Spec PySem.Calls
theorem plain_upd_loop : plainId "dict.update.loop" = true := by decide +kernel
theorem entry_upd_loop : entryFor table "dict.update.loop" = some Builtin.«dict.update.loop» := entryFor_of_fast (by kernel_rfl)
theorem miss_list_keys : typeLookup (.type "list") "keys" = pure none := by rw [typeLookup_type, builtinLookup_eq_fast]; kernel_rfl
section
variable {prog : Program} {w : World} {A : Around} {E : Value → Shared → Prop} {s : Shared}
theorem getAttr?_list_keys {a : Addr} {xs : Array Value} {k : Nat} {Q : Option Value → Shared → Prop} (hx : s.heap.get? a = some { cls := .type "list", data := .seq xs k }) (hA : A.handled = none)
    (h : ∀ h' tk, (∀ b o, s.heap.get? b = some o → h'.get? b = some o) → Q none { s with heap := h', toks := tk }) : wpAny (model prog w) A (getAttr? (.ref a) "keys") Q E s := by
  obtain ⟨hp, g, d, tk, os⟩ := s
  have hT : ∀ tk', (⟨hp, g, d, tk', os⟩ : Shared).TypeIs (.ref a) "list" := fun _ => ⟨_, hx, rfl⟩
  have f1 := sub_AttributeError
  have f3 := PySem.F.slot_list_getattribute.lookup
  have f4 := PySem.F.slot_list_getattribute.bind (.ref a)
  have f5 := am_list_getattr_none
  unfold getAttr? getAttrBy? getAttrBy
  repeat (any_goals (first | assumption | exact hT _ | ((with_reducible show wpAny _ _ (call (Value.builtin "list.__getattribute__") _ _) _ _ _); refine call_meets PySem.F.slot_list_getattribute (hT _) am_entry_list_getattribute (PySem.F.args_list_getattribute_2 _ _) (meets_getattribute_miss_list a xs k #[] "keys" _ miss_list_keys (by decide +kernel)) ⟨hx, hA, fun h' tk' e hx' => ?_⟩) | wp_step))
  obtain ⟨t', u', he⟩ := hx'.there
  show wpAny _ _ (getattributeRaised _ _ _ _ _ _ _) _ _ _
  unfold getattributeRaised
  repeat (any_goals (first | assumption | wp_step))
  exact h _ _ hx'.of.keeps

theorem upd_loop {K : Type} [DecidableEq K] {knd : KeyKind prog w K} {R : Result → Shared → Prop} (hA : A.handled = none) {D I l : Addr} {its : List Value} {kvs : List (K × Value)} (hz : kvs.length ≤ sizeLine) (nDI : D ≠ I) (nDl : D ≠ l) (nIl : I ≠ l) :
    ∀ (k i : Nat) (s : Shared), its.length - i = k → i ≤ its.length → kvs.length = its.length → s.heap.IsListIter I l i → s.heap.IsList l its.toArray → s.heap.DictOf knd D (merged [] (kvs.take i)) →
    (∀ (j : Nat) (v : Value), its[j]? = some v → ∃ (kv : K × Value), kvs[j]? = some kv ∧ ∃ (a : Addr) (key : Value), v = .ref a ∧ a ≠ D ∧ a ≠ I ∧ s.heap.IsTuple a #[key, kv.2] ∧ knd.is kv.1 key = true) →
    (∀ h' tk, h'.DictOf knd D (merged [] kvs) → (∀ b o, b ≠ D → b ≠ I → s.heap.get? b = some o → h'.get? b = some o) → R (.ok (.ret .none)) { s with heap := h', toks := tk }) →
    codeAny (model prog w) A (.builtin "dict.update.loop" ⟨[.ref D, .ref I, rawInt i, .none], []⟩) R s := by
  intro k
  induction k with
  | zero =>
    intro i s hk hi hlen hit hl hd hp hR
    have hin : i = its.length := by omega
    subst hin
    refine codeAny_builtin entry_upd_loop ?_
    rw [Around.under_plainId plain_upd_loop _]
    unfold Builtin.«dict.update.loop»
    refine wpAny_bind (wpAny_pyNext_list_end hA hit hl (by simp) fun h' eb => ?_)
    show wpAny _ _ (Builtin.Dict.addKeywords D [] >>= fun _ => ret .none) _ _ _
    refine wpAny_bind (wpAny_pure (wpAny_pure ?_))
    refine hR h' s.toks ?_ fun b o _ n e => eb b o n e
    rw [← hlen, List.take_length] at hd
    exact hd.extBut eb nDI
  | succ k ih =>
    intro i s hk hi hlen hit hl hd hp hR
    have hlt : i < its.length := by omega
    have hv : its[i]? = some its[i] := List.getElem?_eq_getElem hlt
    obtain ⟨kv, hkv, a, key, ea, naD, naI, htup, his⟩ := hp i _ hv
    refine codeAny_builtin entry_upd_loop ?_
    rw [Around.under_plainId plain_upd_loop _]
    unfold Builtin.«dict.update.loop»
    refine wpAny_bind (wpAny_pyNext_list_item hit hl (x := its[i]) (by simpa using hv) fun h' st' sb => ?_)
    rw [ea]
    have htup' : h'.IsTuple a #[key, kv.2] := by
      obtain ⟨o, e, r⟩ := htup
      exact ⟨o, (sb.2 a naI).trans e, r⟩
    have hT : ({ s with heap := h' } : Shared).TypeIs (.ref a) "tuple" := by
      obtain ⟨o, e, c, _⟩ := htup'
      exact ⟨o, e, c⟩
    have hd' : h'.DictOf knd D (merged [] (kvs.take i)) := hd.sameBut sb nDI
    refine wpAny_bind (wpAny_holding (wpAny_bind (wpAny_tryCatch ?_)))
    unfold Builtin.Dict.pairItems
    refine wpAny_bind (wpAny_typeOf hT ?_)
    rw [if_pos (by decide)]
    obtain ⟨ot, ht1, ht2, nt, ht3⟩ := id htup'
    refine wpAny_bind (wpAny_seqItems (s := { s with heap := h' }) ht1 ht3 (wpAny_pure ?_))
    show wpAny _ _ (holding [key, kv.2] (dictSet D key kv.2)) _ _ _
    refine wpAny_holding (wpAny_dictSet_pairs (s := { s with heap := h' }) his hd' (fun h2 hd2 sb2 => ?_) ?_)
    · refine wpAny_pure ⟨plainId_quiet plain_upd_loop _, ?_⟩
      have e1 : rawInt ((i : Int) + 1) = rawInt ((i + 1 : Nat) : Int) := by rw [Int.natCast_add]; rfl
      rw [e1]
      have e2 : merged [] (kvs.take (i + 1)) = stored (merged [] (kvs.take i)) kv.1 kv.2 := merged_take_succ _ _ _ _ hkv
      have keep : ∀ b o, b ≠ D → b ≠ I → s.heap.get? b = some o → h2.get? b = some o := fun b o n1 n2 e => (sb2.2 b n1).trans ((sb.2 b n2).trans e)
      refine ih (i + 1) _ (by omega) hlt hlen ?_ ?_ (by rw [e2]; exact hd2) (fun j v hj => ?_) fun h3 tk3 d3 k3 => ?_
      · obtain ⟨o, e, r⟩ := st'
        exact ⟨o, (sb2.2 I nDI.symm).trans e, r⟩
      · obtain ⟨o, e, r⟩ := hl
        exact ⟨o, keep l o nDl.symm nIl.symm e, r⟩
      · obtain ⟨kv', q1, a', key', q2, q3, q4, ⟨o, q5, q6⟩, q7⟩ := hp j v hj
        exact ⟨kv', q1, a', key', q2, q3, q4, ⟨o, keep a' o q3 q4 q5, q6⟩, q7⟩
      · exact hR h3 tk3 d3 fun b o n1 n2 e => k3 b o n1 n2 (keep b o n1 n2 e)
    · have := merged_length_le [] (kvs.take i)
      rw [List.length_take] at this
      simp at this
      omega
theorem dict_of_pairs {K : Type} [DecidableEq K] {knd : KeyKind prog w K} (hA : A.handled = none) {l : Addr} {its : List Value} {n : Nat} {kvs : List (K × Value)} {Q : Value → Shared → Prop} (hz : kvs.length ≤ sizeLine) (hn : (kvs.map (·.1)).Nodup)
    (hl : s.heap.get? l = some { cls := .type "list", data := .seq its.toArray n }) (hlen : kvs.length = its.length)
    (hp : ∀ (j : Nat) (v : Value), its[j]? = some v → ∃ (kv : K × Value), kvs[j]? = some kv ∧ ∃ (a : Addr) (key : Value), v = .ref a ∧ s.heap.IsTuple a #[key, kv.2] ∧ knd.is kv.1 key = true)
    (h : ∀ h' tk, h'.DictOf knd s.heap.objs.size kvs → (∀ b o, s.heap.get? b = some o → h'.get? b = some o) → Q (.ref s.heap.objs.size) { s with heap := h', toks := tk }) :
    wpAny (model prog w) A (call (.type "dict") [.ref l]) Q E s := by
  refine callType_codes (Q₁ := fun obj s₁ => obj = .ref s.heap.objs.size ∧ s₁ = { s with heap := s.heap.push { cls := .type "dict", data := .dict #[] } }) PySem.F.kt_called_dict (PySem.F.kt_typeCall_dict_1 _) PySem.F.entry_dict_init (kt_code_dict_new _ ⟨rfl, rfl⟩) ?_
  rintro obj s₁ ⟨rfl, rfl⟩
  have hnew : (s.heap.push { cls := .type "dict", data := .dict #[] }).DictOf knd s.heap.objs.size [] := Heap.DictOf.new s.heap
  have hl' : (s.heap.push { cls := .type "dict", data := .dict #[] }).get? l = some { cls := .type "list", data := .seq its.toArray n } := Heap.get?_push_of_some _ hl
  have hT : ({ s with heap := s.heap.push { cls := .type "dict", data := .dict #[] } } : Shared).TypeIs (.ref l) "list" := ⟨_, hl', rfl⟩
  refine ⟨hnew.typeIs, PySem.F.args_dict_init_2 _ _, ?_⟩
  unfold Builtin.«dict.__init__»
  refine wpAny_bind ?_
  unfold Builtin.Dict.selfAndRest
  refine wpAny_bind (wpAny_notOrdered_dict hnew.typeIs ?_)
  show wpAny _ _ (pure (s.heap.objs.size, [Value.ref l])) _ _ _
  refine wpAny_pure ?_
  show wpAny _ _ (Builtin.Dict.updateFrom "dict.__init__" s.heap.objs.size (.ref l) [] .none) _ _ _
  unfold Builtin.Dict.updateFrom
  refine wpAny_bind (wpAny_typeOf hT ?_)
  rw [if_pos (by decide)]
  refine wpAny_bind (getAttr?_list_keys hl' hA fun h1 tk1 k1 => ?_)
  show wpAny _ _ (rule _ >>= fun _ => pyIter (Value.ref l) >>= fun it => again (.builtin "dict.update.loop" ⟨[.ref s.heap.objs.size, it, rawInt 0, .none], []⟩)) _ _ _
  refine wpAny_bind (wpAny_rule (wpAny_bind (wpAny_pyIter_list (s := { s with heap := h1, toks := tk1 }) ⟨_, k1 _ _ hl', rfl, _, rfl⟩ (wpAny_pure ⟨plainId_quiet plain_upd_loop _, ?_⟩))))
  have k0 : ∀ b o, s.heap.get? b = some o → h1.get? b = some o := fun b o e => k1 b o (Heap.get?_push_of_some _ e)
  have hD : s.heap.objs.size < h1.objs.size := by
    obtain ⟨o, es, ep, e, _⟩ := hnew
    exact Heap.lt_size (k1 _ _ e)
  have hlI : l < h1.objs.size := Heap.lt_size (k0 _ _ hl)
  have hDl : s.heap.objs.size ≠ l := fun z => absurd (Heap.lt_size hl) (by rw [z]; exact Nat.lt_irrefl _)
  refine upd_loop (kvs := kvs) (knd := knd) (its := its) (l := l) (D := s.heap.objs.size) (I := h1.objs.size) (A := A.in1) (show A.in1.handled = none from hA) hz (Nat.ne_of_lt hD) hDl (Nat.ne_of_gt hlI) its.length 0 _ (by omega) (by omega) hlen ?_ ?_ ?_ (fun j v hj => ?_) fun h2 tk2 d2 k2 => ?_
  · exact ⟨_, Heap.get?_push_size _ rfl, rfl, rfl⟩
  · exact ⟨_, Heap.get?_push_of_some _ (k0 _ _ hl), rfl, _, rfl⟩
  · show (h1.push _).DictOf knd s.heap.objs.size (merged [] (kvs.take 0))
    rw [List.take_zero]
    exact (Heap.DictOf.push (hnew.keep k1) _)
  · obtain ⟨kv, q1, a, key, q2, ⟨o, q3, q4⟩, q5⟩ := hp j v hj
    have la := Heap.lt_size q3
    exact ⟨kv, q1, a, key, q2, Nat.ne_of_lt la, Nat.ne_of_lt (Nat.lt_trans la hD), ⟨o, Heap.get?_push_of_some _ (k0 _ _ q3), q4⟩, q5⟩
  · rw [merged_nil_of_nodup kvs hn] at d2
    refine ⟨rfl, h h2 tk2 d2 fun b o e => k2 b o ?_ ?_ (Heap.get?_push_of_some _ (k0 b o e))⟩
    · exact Nat.ne_of_lt (Heap.lt_size e)
    · exact Nat.ne_of_lt (Nat.lt_trans (Heap.lt_size e) hD)
end

end Fb

/-! dict(xs), xs a list of pairs; a comprehension over a list; rows by their signs. -/
namespace Fb
open PySem PySem.Spec PySem.Calls PyProof.Rows L2
noncomputable abbrev PrAt (H : Hp) : Addr → Key × V → Prop := fun a kv => H a = some (.tup [kV kv.1, kv.2])
theorem pairs_are {X : Cx} {pins : List (Addr × Obj)} {σ : St} {H : Hp} {s : Shared} (I : Inv X pins σ H s) : ∀ {as : List Addr} {kvs : List (Key × V)}, Paired (PrAt H) as kvs → ∃ ws : List (Key × Value), KV kvs ws ∧
    ∀ (j : Nat) (a : Addr), as[j]? = some a → ∃ kv : Key × Value, ws[j]? = some kv ∧ ∃ key : Value, s.heap.IsTuple a #[key, kv.2] ∧ (mixKind X.prog X.w).is kv.1 key = true
  | _, _, .nil => ⟨[], .nil, fun j a h => by simp at h⟩
  | _, _, .cons (a := a) (b := kv) h t => by
    obtain ⟨ws, h1, h2⟩ := pairs_are I t
    obtain ⟨its, rv, ht, _⟩ := I.tuple (SqT.of h)
    obtain ⟨u1, u2, rfl, r1, r2⟩ := rv.two
    refine ⟨(kv.1, u2) :: ws, .cons ⟨rfl, r2⟩ h1, fun j a' hj => ?_⟩
    cases j with
    | zero => cases hj; exact ⟨_, rfl, u1, ht, kV_is r1⟩
    | succ j => exact h2 j a' (by simpa using hj)
theorem refs_are : ∀ {as : List Addr} {its : List Value}, Vals (as.map V.ref) its → its = as.map Value.ref
  | [], _, .nil => rfl
  | a :: as, _, .cons h t => by
    have e := refs_are t
    cases (show _ = Value.ref a from h)
    rw [e]; rfl
theorem call_dictOf {X : Cx} (hc : X.calm = true) : CallR X (.type "dict") (fun xs H Q => ∃ (l : Addr) (as : List Addr) (kvs : List (Key × V)), xs = [.ref l] ∧ H l = some (.lst (as.map V.ref)) ∧ Paired (PrAt H) as kvs ∧ (kvs.map (·.1)).Nodup ∧ kvs.length ≤ sizeLine ∧ ∀ p, H p = none → Q (.ref p) (upd H p (.dK kvs))) := by
  intro pins s σ H xs us Q I r h
  obtain ⟨l, as, kvs, rfl, hl, hp, hn, hz, q⟩ := h
  obtain ⟨u, rfl, ru⟩ := vals1 r
  cases (show u = Value.ref l from ru)
  obtain ⟨_, its, n, rv, hlen, e⟩ := I.lstM hl
  obtain ⟨ws, kw, hw⟩ := pairs_are I hp
  have ei := refs_are rv
  have ekeys : kvs.map (·.1) = ws.map (·.1) := kw.keys
  have el : kvs.length = ws.length := kw.length
  have ea : as.length = kvs.length := Pr.length hp
  refine dict_of_pairs (knd := mixKind X.prog X.w) (kvs := ws) (its := its) (n := n) (I.ok.hd hc) (by rw [← el]; exact hz) (by rw [← ekeys]; exact hn) e (by rw [← el, ← ea, ← hlen, List.length_map]) (fun j v hj => ?_) fun h' tk dd k => ?_
  · rw [ei, List.getElem?_map] at hj
    cases ej : as[j]? with
    | none => rw [ej] at hj; cases hj
    | some a =>
      rw [ej] at hj
      cases hj
      obtain ⟨kv, q1, key, q2, q3⟩ := hw j a ej
      exact ⟨kv, q1, a, key, rfl, q2, q3⟩
  · have hb : (s.heap.objs.size == sysModules) = false := by
      have := Inv.big I
      exact beq_eq_false_iff_ne.mpr (Nat.ne_of_gt this)
    exact ⟨.ref s.heap.objs.size, _, I.laid (t' := tk) k (Nat.le_refl _) (dk_new hz hb kw dd), rfl, q _ I.fresh⟩
/-- a comprehension over a list that stays as it is -/
theorem comp_list {K : PySem.W.Frag} {a D : Addr} {xs : List V} {g : TG} {tt : TT} {te : TE} {σ : St} {H : Hp} {Qd : Hp → Prop} (Pv : Nat → St → Hp → Prop) (h0 : Pv 0 σ H) (hl : ∀ i σ H, i ≤ xs.length → Pv i σ H → SqL K H a xs)
    (hs : ∀ i x σ H, xs[i]? = some x → Pv i σ H → g x σ H fun σ2 H2 => tt σ2 H2 fun b H3 => if b = true then te σ2 H3 fun y H4 => ∃ ys, H4 D = some (.lst ys) ∧ ys.length < sizeLine ∧ Pv (i + 1) σ2 (upd H4 D (.lst (ys ++ [y]))) else Pv (i + 1) σ2 H3) (hd : ∀ σ H, Pv xs.length σ H → Qd H) :
    ∃ W : Nat → Nat → St → Hp → Prop, (∃ m, W 0 m σ H) ∧ ∀ i m σc Hc, W i m σc Hc → ((Itl K a).stop i Hc ∧ Qd Hc) ∨ ((Itl K a).go i Hc ∧ ∃ N : St → Hp → Prop, (∀ σ' H', N σ' H' → ∃ m', m' < m ∧ W (i + 1) m' σ' H') ∧ ∀ x H', (Itl K a).yld i Hc x H' → g x σc H' fun σ2 H2 => tt σ2 H2 fun b H3 =>
      if b = true then te σ2 H3 fun y H4 => ∃ ys, H4 D = some (.lst ys) ∧ ys.length < sizeLine ∧ N σ2 (upd H4 D (.lst (ys ++ [y]))) else N σ2 H3) := by
  refine ⟨fun i m σ H => m = xs.length - i ∧ i ≤ xs.length ∧ Pv i σ H, ⟨xs.length, by simp, Nat.zero_le _, h0⟩, ?_⟩
  rintro i m σ H ⟨rfl, hi, p⟩
  have q := hl i σ H hi p
  by_cases hlt : i < xs.length
  · refine .inr ⟨⟨xs, xs[i], q, by simp [hlt]⟩, Pv (i + 1), fun σ' H' p' => ⟨xs.length - (i + 1), by omega, rfl, hlt, p'⟩, fun x H' y => ?_⟩
    obtain ⟨e, y⟩ := y
    subst e
    exact hs i x σ _ (y xs q) p
  · have e : i = xs.length := by omega
    subst e
    exact .inl ⟨⟨xs, q, Nat.le_refl _⟩, hd σ H p⟩
/-- a block that takes no name of the def about it -/
theorem compSc_plain {X : Cx} {sc : Scope} {Nl : List Str} (hk : sc.kind = .function) (h : ∀ y ∈ sc.names, y.2 ≠ .cell ∧ y.2 ≠ .free) (hn : ∀ y ∈ sc.names, y.2 = .local → sc.names.lookup y.1 = some .local) : CompSc X sc [] Nl [] [] where
  clos := closureFor_none fun x hx => (h x hx).2
  nocell := fun y hy => (h y hy).1
  kind := hk
  names := hn
  cls := fun x c e => by cases e
  has := fun x hx => by
    exfalso
    have e : (relabel sc X.env).names = sc.names := by
      show sc.names.map _ = _
      refine map_eq_self fun y hy => ?_
      obtain ⟨n, k⟩ := y
      have := (h (n, k) hy).2
      show (if (k == NameKind.free && X.env.scope.kind == .function && X.env.kindOf n == some .cell) = true then (n, NameKind.cell) else (n, k)) = (n, k)
      rw [if_neg]
      intro z
      simp only [Bool.and_eq_true, beq_iff_eq] at z
      exact this z.1.1
    rw [e] at hx
    rcases hx with z | z
    · exact (h _ (PySem.mem_of_lookup z)).1 rfl
    · exact (h _ (PySem.mem_of_lookup z)).2 rfl
  len := rfl
  fre := fun k x e => by simp at e
/-! ### rows by their signs -/
noncomputable abbrev KvRow (H : Hp) : Key × V → Row → Prop := fun kv r => kv.1 = Sum.inr r.1 ∧ ∃ a, kv.2 = .ref a ∧ H a = some (.tup [.int r.2.1, .str r.2.2])
theorem kv_find {H : Hp} {sg : Str} : ∀ {kvs : List (Key × V)} {rs : List Row}, Paired (KvRow H) kvs rs → (sg ∈ signsOf rs → ∃ a, valV kvs (Sum.inr sg) = some (.ref a) ∧ H a = some (.tup [.int (rankOf rs sg), .str (sideOf rs sg)])) ∧ (sg ∉ signsOf rs → valV kvs (Sum.inr sg) = none)
  | _, _, .nil => ⟨fun m => by simp [signsOf] at m, fun _ => rfl⟩
  | _, _, .cons (a := kv) (b := r) ⟨h1, a, h2, h3⟩ t => by
    obtain ⟨i1, i2⟩ := kv_find (sg := sg) t
    rename_i kvs rs
    by_cases e : r.1 = sg
    · have ev : valV (kv :: kvs) (Sum.inr sg : Key) = some kv.2 := valV_pos (by rw [h1, e])
      refine ⟨fun _ => ⟨a, by rw [ev, h2], ?_⟩, fun n => absurd (by rw [← e]; exact List.mem_cons_self) n⟩
      have e1 : rankOf (r :: rs) sg = r.2.1 := by unfold rankOf; rw [List.find?_cons_of_pos (by simp [e])]; rfl
      have e2 : sideOf (r :: rs) sg = r.2.2 := by unfold sideOf; rw [List.find?_cons_of_pos (by simp [e])]; rfl
      rw [e1, e2]; exact h3
    · have ev : valV (kv :: kvs) (Sum.inr sg : Key) = valV kvs (Sum.inr sg) := valV_neg (by rw [h1]; exact fun z => e (Sum.inr.inj z))
      have e1 : rankOf (r :: rs) sg = rankOf rs sg := by unfold rankOf; rw [List.find?_cons_of_neg (by simp [e])]
      have e2 : sideOf (r :: rs) sg = sideOf rs sg := by unfold sideOf; rw [List.find?_cons_of_neg (by simp [e])]
      rw [ev, e1, e2]
      refine ⟨fun m => i1 ?_, fun n => i2 fun m => n (List.mem_cons_of_mem _ m)⟩
      rcases List.mem_cons.mp m with z | z
      · exact absurd z.symm e
      · exact z
theorem kv_keys {H : Hp} : ∀ {kvs : List (Key × V)} {rs : List Row}, Paired (KvRow H) kvs rs → kvs.map (·.1) = (rs.map (·.1)).map (fun s => (Sum.inr s : Key))
  | _, _, .nil => rfl
  | _, _, .cons ⟨h1, _⟩ t => by rw [List.map_cons, List.map_cons, List.map_cons, kv_keys t, h1]
end Fb

/-! Lines without brackets: words, clashes, equal lists, dicts by sign. -/
namespace Fb
open PySem PySem.Spec PySem.Calls PyProof.Rows L2
theorem letters_all {x : Str} (h : Letters x) : ∀ c ∈ x.cps.toList, isLet c = true := fun c hc => by
  have := h c hc
  unfold isLet
  simp only [decide_eq_true_eq]
  omega
/-- a word of a line: a leaf or a sign -/
inductive Wd where
  | leaf (t : Rek)
  | sign (sg : Str)
noncomputable def Wd.v : Wd → V
  | .leaf (.num n) => .int n
  | .leaf (.name x) => .str x
  | .leaf (.node _ _ _) => .non
  | .sign sg => .str sg
noncomputable def Wd.tok : Wd → Tok
  | .leaf (.num n) => .figs (digs n)
  | .leaf (.name x) => .word x.cps.toList
  | .leaf (.node _ _ _) => .ch 0
  | .sign sg => .ch (sgCh sg)
noncomputable def Wd.Ok (rs : List Row) : Wd → Prop
  | .leaf t => t.isNode = false
  | .sign sg => sg ∈ signsOf rs
noncomputable def flatWd : Rek → List Wd
  | .node sg l r => flatWd l ++ .sign sg :: flatWd r
  | t => [.leaf t]
theorem flatWd_toks : ∀ t : Rek, (flatWd t).map Wd.tok = t.toks
  | .num _ => rfl
  | .name _ => rfl
  | .node sg l r => by
    show (flatWd l ++ .sign sg :: flatWd r).map Wd.tok = l.toks ++ .ch (sgCh sg) :: r.toks
    rw [List.map_append, List.map_cons, flatWd_toks l, flatWd_toks r]; rfl
theorem flatWd_ok {rs : List Row} : ∀ {t : Rek}, RB rs t → ∀ w ∈ flatWd t, w.Ok rs
  | .num n, _, w, h => by
    have e : w = .leaf (.num n) := by simpa [flatWd] using h
    rw [e]; rfl
  | .name x, _, w, h => by
    have e : w = .leaf (.name x) := by simpa [flatWd] using h
    rw [e]; rfl
  | .node sg l r, ⟨h1, h2, h3, _, _⟩, w, h => by
    have h' : w ∈ flatWd l ++ .sign sg :: flatWd r := h
    rcases List.mem_append.mp h' with z | z
    · exact flatWd_ok h2 w z
    · rcases List.mem_cons.mp z with rfl | z
      · exact h1
      · exact flatWd_ok h3 w z
theorem str_ext {a b : Str} (h : a.cps.toList = b.cps.toList) : a = b := by
  cases a; cases b
  rename_i p q
  rw [show p = q from Array.toList_inj.mp h]
theorem wd_inj {rs : List Row} (hf : Fine rs) {a b : Wd} (ha : a.Ok rs) (hb : b.Ok rs) (h : a.tok = b.tok) : a = b := by
  cases a with
  | leaf s =>
    cases b with
    | leaf t =>
      cases s with
      | node _ _ _ => cases ha
      | num n =>
        cases t with
        | node _ _ _ => cases hb
        | num m => injection h with h; rw [digs_inj h]
        | name x => cases h
      | name x =>
        cases t with
        | node _ _ _ => cases hb
        | num m => cases h
        | name y => injection h with h; rw [str_ext h]
    | sign sg =>
      cases s with
      | node _ _ _ => cases ha
      | num n => cases h
      | name x => cases h
  | sign sg =>
    cases b with
    | leaf t =>
      cases t with
      | node _ _ _ => cases hb
      | num m => cases h
      | name y => cases h
    | sign sg' => injection h with h; rw [sgCh_inj hf ha hb h]
theorem wds_inj {rs : List Row} (hf : Fine rs) : ∀ {a b : List Wd}, (∀ w ∈ a, w.Ok rs) → (∀ w ∈ b, w.Ok rs) → a.map Wd.tok = b.map Wd.tok → a = b
  | [], [], _, _, _ => rfl
  | [], _ :: _, _, _, h => by simp at h
  | _ :: _, [], _, _, h => by simp at h
  | x :: a, y :: b, h1, h2, h => by
    simp only [List.map_cons, List.cons.injEq] at h
    rw [wd_inj hf (h1 x (by simp)) (h2 y (by simp)) h.1, wds_inj hf (fun w hw => h1 w (List.mem_cons_of_mem _ hw)) (fun w hw => h2 w (List.mem_cons_of_mem _ hw)) h.2]
/-! ### the line of the words -/
noncomputable def Wd.text : Wd → List Nat
  | .leaf t => t.text
  | .sign sg => sg.cps.toList
noncomputable def opWds (ops : List (Str × Rek)) : List Wd := (ops.map fun o => [Wd.sign o.1, Wd.leaf o.2]).flatten
noncomputable def tailL (sep : List Nat) (ops : List (Str × Rek)) : List Nat := (ops.map fun o => sep ++ o.1.cps.toList ++ (sep ++ o.2.text)).flatten
theorem glue_tail (sep : List Nat) (t0 : Rek) (ops : List (Str × Rek)) : glueL sep ((Wd.leaf t0 :: opWds ops).map Wd.text) = t0.text ++ tailL sep ops := by
  show t0.text ++ (((opWds ops).map Wd.text).map fun y => sep ++ y).flatten = _
  congr 1
  induction ops with
  | nil => rfl
  | cons o r ih =>
    show ((([Wd.sign o.1, Wd.leaf o.2] ++ opWds r).map Wd.text).map fun y => sep ++ y).flatten = (sep ++ o.1.cps.toList ++ (sep ++ o.2.text)) ++ tailL sep r
    rw [List.map_append, List.map_append, List.flatten_append, ih]
    simp [Wd.text]
noncomputable def ltok : Rek → Tok
  | .num n => .figs (digs n)
  | .name x => .word x.cps.toList
  | .node _ _ _ => .ch 0
theorem lex_leafText {t : Rek} (h : LeafOk t) : lex t.text = [ltok t] := by
  cases t with
  | num n => exact lex_figs (digs_fig n) (digs_ne n)
  | name x =>
    refine lex_letters (letters_all h.2.2) fun z => ?_
    have z' : x.cps.toList = [] := z
    have := h.1
    have e : x.length = x.cps.toList.length := by simp [Str.length]
    rw [z'] at e
    simp at e
    omega
  | node _ _ _ => exact h.elim
theorem lex_tail {rs : List Row} (hf : Fine rs) {sep : List Nat} (hs : sep = [] ∨ sep = [32]) : ∀ {ops : List (Str × Rek)}, (∀ o ∈ ops, o.1 ∈ signsOf rs ∧ LeafOk o.2) → ∀ y, lex (y ++ tailL sep ops) = lex y ++ (ops.map fun o => [Tok.ch (sgCh o.1), ltok o.2]).flatten
  | [], _, y => by simp [tailL]
  | o :: r, h, y => by
    obtain ⟨h1, h2⟩ := h o (by simp)
    obtain ⟨_, _, n32, cl, e⟩ := sg_not_br hf h1
    have sepL : ∀ z, lex (z ++ sep) = lex z := fun z => by
      rcases hs with rfl | rfl
      · simp
      · have := lex_blank z []; rw [this]; simp [lex_nil]
    have sepR : ∀ z, lex (sep ++ z) = lex z := fun z => by
      rcases hs with rfl | rfl
      · simp
      · have := lex_blank [] z; rw [List.nil_append] at this; rw [show ([32] : List Nat) ++ z = 32 :: z from rfl, this, lex_nil, List.nil_append]
    have e1 : y ++ tailL sep (o :: r) = (y ++ sep) ++ sgCh o.1 :: ((sep ++ o.2.text) ++ tailL sep r) := by
      show y ++ ((sep ++ o.1.cps.toList ++ (sep ++ o.2.text)) ++ tailL sep r) = _
      rw [e]; simp
    rw [e1, lex_ch cl n32, sepL, lex_tail hf hs (fun q hq => h q (List.mem_cons_of_mem _ hq)) (sep ++ o.2.text), sepR, lex_leafText h2]
    simp
noncomputable def leafBT : Rek → BT
  | .num n => .num n
  | .name x => .name x
  | .node _ _ _ => .num 0
theorem leafBT_ok {rs : List Row} {t : Rek} (h : LeafOk t) : WB rs (leafBT t) ∧ (leafBT t).top = none ∧ (leafBT t).pairs = 0 ∧ (leafBT t).flat = [ltok t] := by
  cases t with
  | num n => exact ⟨trivial, rfl, rfl, rfl⟩
  | name x =>
    refine ⟨⟨fun z => ?_, letters_all h.2.2⟩, rfl, rfl, rfl⟩
    have := h.1
    have e : x.length = x.cps.toList.length := by simp [Str.length]
    rw [z] at e
    simp at e
    omega
  | node _ _ _ => exact h.elim
/-- what is read of such a line -/
theorem line_reads {rs : List Row} (hf : Fine rs) {sep : List Nat} (hs : sep = [] ∨ sep = [32]) {t0 : Rek} (h0 : LeafOk t0) {ops : List (Str × Rek)} (ho : ∀ o ∈ ops, o.1 ∈ signsOf rs ∧ LeafOk o.2) :
    (¬ Clash rs (ops.map (·.1)) → ∃ t, Reads rs (t0.text ++ tailL sep ops) t ∧ RB rs t ∧ flatWd t = Wd.leaf t0 :: opWds ops) ∧ (Clash rs (ops.map (·.1)) → ∀ t, ¬ Reads rs (t0.text ++ tailL sep ops) t) := by
  have hl : lex (t0.text ++ tailL sep ops) = (Wd.leaf t0 :: opWds ops).map Wd.tok := by
    rw [lex_tail hf hs ho, lex_leafText h0]
    have lt : ∀ t : Rek, ltok t = Wd.tok (.leaf t) := fun t => by cases t <;> rfl
    show [ltok t0] ++ _ = [Wd.tok (.leaf t0)] ++ (opWds ops).map Wd.tok
    rw [lt]
    congr 1
    unfold opWds
    rw [List.map_flatten, List.map_map]
    congr 1
    refine List.map_congr_left fun o _ => ?_
    show [Tok.ch (sgCh o.1), ltok o.2] = [Wd.tok (.sign o.1), Wd.tok (.leaf o.2)]
    rw [lt]; rfl
  have key := flat_reads hf (x := t0.text ++ tailL sep ops) (x0 := leafBT t0) (ops := ops.map fun o => (o.1, leafBT o.2)) ⟨(leafBT_ok (rs := rs) h0).1, (leafBT_ok (rs := rs) h0).2.1, (leafBT_ok (rs := rs) h0).2.2.1⟩
    (fun o h => by
      obtain ⟨p, hp, rfl⟩ := List.mem_map.mp h
      obtain ⟨a, b⟩ := ho p hp
      exact ⟨a, (leafBT_ok (rs := rs) b).1, (leafBT_ok (rs := rs) b).2.1, (leafBT_ok (rs := rs) b).2.2.1⟩)
    (by
      rw [lex_tail hf hs ho, lex_leafText h0, (leafBT_ok (rs := rs) h0).2.2.2, List.map_map]
      congr 2
      refine List.map_congr_left fun o h => ?_
      show _ = Tok.ch (sgCh o.1) :: (leafBT o.2).flat
      rw [(leafBT_ok (rs := rs) (ho o h).2).2.2.2])
  have em : (ops.map fun o => (o.1, leafBT o.2)).map (·.1) = ops.map (·.1) := by rw [List.map_map]; rfl
  rw [em] at key
  refine ⟨fun hc => ?_, fun hc t h => (key.2 t h).1 hc⟩
  obtain ⟨t, ht⟩ := key.1 hc
  obtain ⟨_, k2, k3⟩ := key.2 t ht
  refine ⟨t, ht, k2, wds_inj hf (flatWd_ok k2) (fun w hw => ?_) (by rw [flatWd_toks, k3, hl])⟩
  rcases List.mem_cons.mp hw with rfl | hw
  · cases t0 with
    | num n => rfl
    | name x => rfl
    | node _ _ _ => exact h0.elim
  · obtain ⟨l, hl', hw'⟩ := List.mem_flatten.mp hw
    obtain ⟨o, ho', rfl⟩ := List.mem_map.mp hl'
    obtain ⟨a, b⟩ := ho o ho'
    simp only [List.mem_cons, List.not_mem_nil, or_false] at hw'
    rcases hw' with rfl | rfl
    · exact a
    · cases h : o.2 with
      | num n => rfl
      | name x => rfl
      | node _ _ _ => rw [h] at b; exact b.elim
theorem text_len {t : Rek} (h : LeafOk t) : t.text.length ≤ 61 := by
  cases t with
  | num n => exact digs_len 60 n h
  | name x =>
    have e : x.length = x.cps.toList.length := by simp [Str.length]
    have := h.2.1
    show x.cps.toList.length ≤ 61
    omega
  | node _ _ _ => exact h.elim
theorem tail_len {rs : List Row} (hf : Fine rs) {sep : List Nat} (hs : sep.length ≤ 1) : ∀ {ops : List (Str × Rek)}, (∀ o ∈ ops, o.1 ∈ signsOf rs ∧ LeafOk o.2) → (tailL sep ops).length ≤ 64 * ops.length
  | [], _ => Nat.le_refl _
  | o :: r, h => by
    obtain ⟨h1, h2⟩ := h o (by simp)
    have e := (sg_not_br hf h1).2.2.2.2
    have l := text_len h2
    have ih := tail_len hf hs (ops := r) fun q hq => h q (List.mem_cons_of_mem _ hq)
    show ((sep ++ o.1.cps.toList ++ (sep ++ o.2.text)) ++ tailL sep r).length ≤ 64 * (r.length + 1)
    rw [e]
    simp only [List.length_append, List.length_cons, List.length_nil]
    omega
theorem line_ok {rs : List Row} (hf : Fine rs) {sep : List Nat} (hs : sep = [] ∨ sep = [32]) {t0 : Rek} (h0 : LeafOk t0) {ops : List (Str × Rek)} (ho : ∀ o ∈ ops, o.1 ∈ signsOf rs ∧ LeafOk o.2) (hn : ops.length ≤ 62) : LineOk (t0.text ++ tailL sep ops) := by
  have lt : ∀ {t : Rek}, LeafOk t → (∀ w, ltok t = .figs w → w.length ≤ 640) ∧ ∀ c ∈ tokT (ltok t), c < 128 := fun {t} h => by
    cases t with
    | num n =>
      refine ⟨fun w e => ?_, fun c hc => fig_asc (digs_fig n c hc)⟩
      have e' : Tok.figs (digs n) = .figs w := e
      cases e'
      exact Nat.le_trans (digs_len 60 n h) (by decide)
    | name x => exact ⟨fun w e => (by have e' : Tok.word _ = .figs w := e; cases e'), fun c hc => let_asc (letters_all h.2.2 c hc)⟩
    | node _ _ _ => exact h.elim
  have hl := lex_tail hf hs ho t0.text
  rw [lex_leafText h0] at hl
  have mem : ∀ t ∈ lex (t0.text ++ tailL sep ops), t = ltok t0 ∨ ∃ o ∈ ops, t = .ch (sgCh o.1) ∨ t = ltok o.2 := fun t ht => by
    rw [hl] at ht
    rcases List.mem_append.mp ht with z | z
    · exact .inl (by simpa using z)
    · obtain ⟨l, hl', hw'⟩ := List.mem_flatten.mp z
      obtain ⟨o, ho', rfl⟩ := List.mem_map.mp hl'
      exact .inr ⟨o, ho', by simpa using hw'⟩
  refine ⟨?_, fun w hw => ?_, fun t ht c hc => ?_⟩
  · rw [List.length_append]
    have a := text_len h0
    have b := tail_len hf (sep := sep) (by rcases hs with rfl | rfl <;> decide) ho
    omega
  · rcases mem _ hw with e | ⟨o, ho', e | e⟩
    · exact (lt h0).1 w e.symm
    · cases e
    · exact (lt (ho o ho').2).1 w e.symm
  · rcases mem _ ht with e | ⟨o, ho', e | e⟩
    · rw [e] at hc; exact (lt h0).2 c hc
    · rw [e] at hc
      have : c = sgCh o.1 := by simpa [tokT] using hc
      rw [this]; exact sg_asc hf (ho o ho').1
    · rw [e] at hc; exact (lt (ho o ho').2).2 c hc
/-! ### a rank of the side none again -/
noncomputable def hits (rs : List Row) (s : Str) : List Str → Bool
  | [] => false
  | t :: r => if rankOf rs t < rankOf rs s then false else if rankOf rs t = rankOf rs s then true else hits rs s r
noncomputable def clashB (rs : List Row) : List Str → Bool
  | [] => false
  | s :: r => (decide (sideOf rs s = "none") && hits rs s r) || clashB rs r
theorem hits_iff (rs : List Row) (s : Str) : ∀ S : List Str, hits rs s S = true ↔ ∃ B t C, S = B ++ t :: C ∧ rankOf rs s = rankOf rs t ∧ ∀ m ∈ B, ¬ rankOf rs m < rankOf rs s
  | [] => by
    constructor
    · intro h; cases h
    · rintro ⟨B, t, C, e, _⟩; simp at e
  | x :: S => by
    have ih := hits_iff rs s S
    unfold hits
    constructor
    · intro h
      by_cases c1 : rankOf rs x < rankOf rs s
      · rw [if_pos c1] at h; cases h
      · rw [if_neg c1] at h
        by_cases c2 : rankOf rs x = rankOf rs s
        · exact ⟨[], x, S, rfl, c2.symm, fun m hm => by cases hm⟩
        · rw [if_neg c2] at h
          obtain ⟨B, t, C, e, e1, e2⟩ := ih.mp h
          refine ⟨x :: B, t, C, by rw [e]; rfl, e1, fun m hm => ?_⟩
          rcases List.mem_cons.mp hm with rfl | hm
          · exact c1
          · exact e2 m hm
    · rintro ⟨B, t, C, e, e1, e2⟩
      cases B with
      | nil =>
        simp only [List.nil_append, List.cons.injEq] at e
        rw [e.1, if_neg (by omega), if_pos e1.symm]
      | cons b B =>
        simp only [List.cons_append, List.cons.injEq] at e
        rw [e.1, if_neg (e2 b (by simp))]
        by_cases c2 : rankOf rs b = rankOf rs s
        · rw [if_pos c2]
        · rw [if_neg c2]
          exact ih.mpr ⟨B, t, C, e.2, e1, fun m hm => e2 m (List.mem_cons_of_mem _ hm)⟩
theorem clash_iff (rs : List Row) : ∀ S : List Str, clashB rs S = true ↔ Clash rs S := by
  intro S
  have key : Clash rs S ↔ ∃ A s R, S = A ++ s :: R ∧ sideOf rs s = "none" ∧ hits rs s R = true := by
    constructor
    · rintro ⟨A, t, C, e, hn⟩
      unfold Free at hn
      have : ∃ A' s B, A = A' ++ s :: B ∧ sideOf rs s = "none" ∧ rankOf rs s = rankOf rs t ∧ ∀ m ∈ B, ¬ rankOf rs m < rankOf rs s := Classical.byContradiction fun z => hn fun A' s B e1 e2 e3 => Classical.byContradiction fun y => z ⟨A', s, B, e1, e2, e3, fun m hm hlt => y ⟨m, hm, hlt⟩⟩
      obtain ⟨A', s, B, rfl, h2, h3, h4⟩ := this
      exact ⟨A', s, B ++ t :: C, by rw [e]; simp, h2, (hits_iff rs s _).mpr ⟨B, t, C, rfl, h3, h4⟩⟩
    · rintro ⟨A, s, R, e, h2, h3⟩
      obtain ⟨B, t, C, rfl, h4, h5⟩ := (hits_iff rs s R).mp h3
      refine ⟨A ++ s :: B, t, C, by rw [e]; simp, fun hf => ?_⟩
      obtain ⟨m, hm, hlt⟩ := hf A s B rfl h2 h4
      exact h5 m hm hlt
  rw [key]
  clear key
  induction S with
  | nil =>
    constructor
    · intro h; cases h
    · rintro ⟨A, s, R, e, _⟩; simp at e
  | cons x S ih =>
    unfold clashB
    rw [Bool.or_eq_true, Bool.and_eq_true, decide_eq_true_eq]
    constructor
    · rintro (⟨h1, h2⟩ | h)
      · exact ⟨[], x, S, rfl, h1, h2⟩
      · obtain ⟨A, s, R, e, h1, h2⟩ := ih.mp h
        exact ⟨x :: A, s, R, by rw [e]; rfl, h1, h2⟩
    · rintro ⟨A, s, R, e, h1, h2⟩
      cases A with
      | nil =>
        simp only [List.nil_append, List.cons.injEq] at e
        rw [e.1, e.2]; exact .inl ⟨h1, h2⟩
      | cons a A =>
        simp only [List.cons_append, List.cons.injEq] at e
        exact .inr (ih.mpr ⟨A, s, R, e.2, h1, h2⟩)
/-! ### equal lists -/
noncomputable def plainV : V → Bool
  | .int _ => true
  | .str _ => true
  | _ => false
theorem Wd.plain {rs : List Row} {w : Wd} (h : w.Ok rs) : plainV w.v = true := by
  cases w with
  | leaf t =>
    cases t with
    | num n => rfl
    | name x => rfl
    | node _ _ _ => cases h
  | sign sg => rfl
theorem op_eqLst {X : Cx} (hu : X.A.units < cLine) : OpR X (compareOp .Eq) (fun x y H Q => ∃ a b xs, x = .ref a ∧ y = .ref b ∧ H a = some (.lst xs) ∧ H b = some (.lst xs) ∧ (∀ x ∈ xs, plainV x = true) ∧ Q (.bl true) H) := by
  intro pins s σ H x y v u Q I rx ry h
  obtain ⟨a, b, xs, rfl, rfl, ha, hb, hp, q⟩ := h
  cases rx
  cases ry
  obtain ⟨_, its, n, r, hl, e⟩ := I.lstM ha
  obtain ⟨_, its2, n2, r2, hl2, e2⟩ := I.lstM hb
  refine SeqAt.eq_listAt (e := fun _ => true) (isList_of e) (isList_of e2) (by rw [List.size_toArray, List.size_toArray, ← hl, ← hl2]) hu (fun j h1 h2 => ?_) ?_
  · have h1' : j < its.length := by simpa using h1
    have h2' : j < its2.length := by simpa using h2
    have hj : j < xs.length := by rw [hl]; exact h1'
    obtain ⟨u1, g1, q1⟩ := Vals.get r (show xs[j]? = some xs[j] from by simp [hj])
    obtain ⟨u2, g2, q2⟩ := Vals.get r2 (show xs[j]? = some xs[j] from by simp [hj])
    have e1 : its.toArray[j] = u1 := by
      have : its[j]? = some its[j] := by simp [h1']
      rw [g1] at this; cases this; simp
    have e2 : its2.toArray[j] = u2 := by
      have : its2[j]? = some its2[j] := by simp [h2']
      rw [g2] at this; cases this; simp
    rw [e1, e2]
    have hpj := hp xs[j] (List.getElem_mem hj)
    generalize xs[j] = x at q1 q2 hpj
    cases x with
    | int i =>
      obtain ⟨t1, rfl⟩ := q1
      obtain ⟨t2, rfl⟩ := q2
      have := SeqAt.EqAt.int_int (A := X.A.in1) (s := s) i t1 i t2
      simpa using this
    | str i =>
      obtain ⟨t1, rfl⟩ := q1
      obtain ⟨t2, rfl⟩ := q2
      have := SeqAt.EqAt.str_str (A := X.A.in1) (s := s) i t1 i t2
      simpa using this
    | _ => cases hpj
  · have : (List.range its.toArray.size).all (fun _ => true) = true := by simp
    rw [this]
    exact ⟨.bl true, H, I, rfl, q⟩
/-! ### dicts by sign -/
/-- a dict that tells for each sign of rs what f tells -/
noncomputable def SgD (H : Hp) (d : Addr) (rs : List Row) (f : Str → V) : Prop := ∃ kvs : List (Key × V), H d = some (.dK kvs) ∧ ∀ sg ∈ signsOf rs, valV kvs (Sum.inr sg) = some (f sg)
theorem SgD.get {H : Hp} {d : Addr} {rs : List Row} {f : Str → V} (h : SgD H d rs f) {sg : Str} (hs : sg ∈ signsOf rs) : DGet H d (.str sg) (some (f sg)) := by
  obtain ⟨kvs, h1, h2⟩ := h
  have := DGet.k (k := (Sum.inr sg : Key)) h1
  rw [h2 sg hs] at this
  exact this
theorem SgD.isD {H : Hp} {d : Addr} {rs : List Row} {f : Str → V} (h : SgD H d rs f) : IsD H d := by
  obtain ⟨kvs, h1, _⟩ := h
  exact .inl ⟨kvs, .inl h1⟩
theorem SgD.keep {H H' : Hp} {d : Addr} {rs : List Row} {f : Str → V} (h : SgD H d rs f) (k : ∀ kvs, H d = some (.dK kvs) → H' d = some (.dK kvs)) : SgD H' d rs f :=
  let ⟨kvs, h1, h2⟩ := h; ⟨kvs, k _ h1, h2⟩
theorem SgD.same {H H' : Hp} {d : Addr} {rs : List Row} {f : Str → V} (h : SgD H d rs f) (e : Same H H') : SgD H' d rs f := h.keep fun _ z => e _ _ z
theorem call_str_wd {X : Cx} : CallR X (.type "str") (fun xs H Q => ∃ w : Wd, xs = [w.v] ∧ (∀ t, w = .leaf t → LeafOk t) ∧ Q (.str (txtOf w.text)) H) := by
  intro pins s σ H xs us Q I r h
  obtain ⟨w, rfl, hl, q⟩ := h
  cases w with
  | leaf t =>
    have hk := hl t rfl
    cases t with
    | num n => exact call_str_leaf pins s σ H _ us Q I r ⟨.int n, .num n, rfl, rfl, hk, q⟩
    | name x => exact call_str_leaf pins s σ H _ us Q I r ⟨.str x, .name x, rfl, rfl, hk, q⟩
    | node _ _ _ => exact hk.elim
  | sign sg =>
    obtain ⟨u, rfl, r1⟩ := vals1 r
    obtain ⟨t, rfl⟩ := r1
    have e : txtOf (Wd.text (.sign sg)) = sg := txtOf_cps sg
    rw [e] at q
    exact PySem.P.str_of_str ⟨.str _, H, I, ⟨_, rfl⟩, q⟩
theorem rank_side_mem : ∀ {rs : List Row}, (rs.map (·.1)).Nodup → ∀ {r : Row}, r ∈ rs → rankOf rs r.1 = r.2.1 ∧ sideOf rs r.1 = r.2.2
  | [], _, _, h => by cases h
  | q :: rs, hn, r, h => by
    rw [List.map_cons, List.nodup_cons] at hn
    unfold rankOf sideOf
    rcases List.mem_cons.mp h with rfl | h
    · simp [List.find?_cons]
    · have ne : ¬ q.1 = r.1 := fun z => hn.1 (by rw [z]; exact List.mem_map.mpr ⟨r, h, rfl⟩)
      have e : (q.1 == r.1) = false := by simpa using ne
      rw [List.find?_cons, e]
      exact rank_side_mem hn.2 h
/-- the dicts that are put together row by row -/
theorem sgD_of {H : Hp} {d : Addr} {rs : List Row} {kvs : List (Key × V)} {f : Str → V} {g : Row → V} (h : H d = some (.dK kvs)) (hk : ∀ r ∈ rs, valV kvs (Sum.inr r.1) = some (g r)) (hg : ∀ r ∈ rs, f r.1 = g r) : SgD H d rs f := by
  refine ⟨kvs, h, fun sg hs => ?_⟩
  obtain ⟨r, hr, rfl⟩ := List.mem_map.mp hs
  rw [hk r hr, hg r hr]
theorem put_keep {kvs : List (Key × V)} {rs : List Row} {r : Row} {g : Row → V} (hk : ∀ q ∈ rs, valV kvs (Sum.inr q.1) = some (g q)) (hn : ∀ q ∈ rs, q.1 ≠ r.1) : ∀ q ∈ rs ++ [r], valV (putK kvs (Sum.inr r.1) (g r)) (Sum.inr q.1) = some (g q) := fun q hq => by
  rw [valV_put]
  rcases List.mem_append.mp hq with z | z
  · rw [if_neg (fun e => hn q z (Sum.inr.inj e))]; exact hk q z
  · have e : q = r := by simpa using z
    rw [e, if_pos rfl]
theorem put_len {kvs : List (Key × V)} {k : Key} {v : V} : (putK kvs k v).length ≤ kvs.length + 1 := by
  unfold putK
  split
  · rw [List.length_map]; omega
  · rw [List.length_append]; exact Nat.le_refl _
/-- what comes behind a statement, for a while by a name -/
theorem cutS {t u : TS} {D : Ends} {σ : L2.St} {H : Hp} (h : ∀ U : TS, U = u → tSeq t U D σ H) : tSeq t u D σ H := h u rfl
theorem wd_leaf_v {H : Hp} {v : V} {t : Rek} (h : TreeAt H v t) (hl : LeafOk t) : v = (Wd.leaf t).v := by
  cases t with
  | num n => exact h
  | name x => exact h
  | node _ _ _ => exact hl.elim
theorem flatWd_len : ∀ u : Rek, (flatWd u).length = 2 * u.size + 1
  | .num _ => rfl
  | .name _ => rfl
  | .node sg l r => by
    show (flatWd l ++ .sign sg :: flatWd r).length = 2 * (l.size + r.size + 1) + 1
    rw [List.length_append, List.length_cons, flatWd_len l, flatWd_len r]; omega
theorem opWds_snoc (ops : List (Str × Rek)) (o : Str × Rek) : opWds (ops ++ [o]) = opWds ops ++ [.sign o.1, .leaf o.2] := by unfold opWds; simp
theorem opWds_len (ops : List (Str × Rek)) : (opWds ops).length = 2 * ops.length := by
  induction ops with
  | nil => rfl
  | cons o r ih =>
    show ([Wd.sign o.1, Wd.leaf o.2] ++ opWds r).length = 2 * (r.length + 1)
    rw [List.length_append, ih]
    simp only [List.length_cons, List.length_nil]
    omega
end Fb

namespace K05
open PySem L2 Fb
seal L2.PE L2.PT L2.PW L2.PA L2.PS L2.PSs L2.PC L2.PG L2.PGs L2.PI L2.PO Fb.PJ
noncomputable def top (i : Nat) : Stmt := PySem.Challenge.pw_fewbrackets_k05_whole_by_ranks_and_sides.main.body.getD i (.Pass ⟨0, 0, 0, 0⟩)
noncomputable abbrev sDraw : Stmt := top 24
noncomputable abbrev sAt : Stmt := top 26
noncomputable abbrev sRanked : Stmt := top 27
section
variable {P : Program} {w : World} {K : PySem.W.Frag} {mg : Str → Option Value} {base : Heap}
/-! ### _law_draw -/
noncomputable abbrev psDraw : List Str := ["_law_number", "_law_prime", "_law_many"]
noncomputable def spDraw : Sp := fun vs H Q _ => ∃ n p m : Int, vs = [.int n, .int p, .int m] ∧ 0 < p ∧ 0 < m ∧ Q (.int (drawI n p m)) H
theorem scDraw : FnScope psDraw psDraw (defScope sDraw) := ⟨rfl, rfl, rfl, by decide +kernel, rfl, by decide +kernel, by decide +kernel⟩
theorem ok_draw {f : Addr} {fd : FuncData} (F : Fun K "_law_draw" "_law_draw" sDraw f fd) : FnOk P w K mg base CX0 1 f fd psDraw spDraw := by
  refine F.ok scDraw (fun vs H Q E h => ?_) (fun cdv A outer s H vs Q E hr h => ?_)
  · obtain ⟨n, p, m, rfl, _⟩ := h; rfl
  obtain ⟨n, p, m, rfl, hp, hm, q⟩ := h
  refine ⟨_, pss_one (ps_ret (pe_op op_mod (pe_op op_mod (pe_op op_mul (pv 0) pe_int) (pv 1)) (pv 2))), ?_⟩
  exact ⟨_, rfl, _, _, rfl, rfl, .inr ⟨by decide, by decide⟩, _, rfl, _, _, rfl, rfl, hp, _, rfl, _, _, rfl, rfl, hm, q⟩
/-! ### _law_at -/
noncomputable abbrev psAt : List Str := ["_law_script", "_law_k"]
noncomputable def spAt (K : PySem.W.Frag) : Sp := fun vs H Q _ => ∃ (a : Addr) (ns : List Int) (k : Nat), vs = [.ref a, .int k] ∧ SqL K H a (ns.map V.int) ∧ Q (.int (ns.getD k 0)) H
theorem scAt : FnScope psAt psAt (defScope sAt) := ⟨rfl, rfl, rfl, by decide +kernel, rfl, by decide +kernel, by decide +kernel⟩
theorem ok_at {f : Addr} {fd : FuncData} (F : Fun K "_law_at" "_law_at" sAt f fd) (ml : mg "len" = none) : FnOk P w K mg base CX0 1 f fd psAt (spAt K) := by
  refine F.ok scAt (fun vs H Q E h => ?_) (fun cdv A outer s H vs Q E hr h => ?_)
  · obtain ⟨a, ns, k, rfl, _⟩ := h; rfl
  obtain ⟨a, ns, k, rfl, hS, q⟩ := h
  refine ⟨_, pss_cons (ps_if (pt_cmpR op_lt (pv 1) (pe_callB call_len_seq rfl ml PySem.boot_len (pa_cons (pv 0) pa_nil)) (nomark _)) (pss_one (ps_ret (pe_ix ix_list (pv 0) (pv 1) (fun _ _ => rfl)))) pss_nil) (pss_one (ps_ret pe_int)), ?_⟩
  refine ⟨_, rfl, _, rfl, a, _, rfl, .inl hS, _, _, rfl, rfl, _, rfl, ?_⟩
  refine ite2 (fun c => ?_) (fun c => ?_)
  · have c' : (k : Int) < (((ns.map V.int).length : Nat) : Int) := of_decide_eq_true c
    rw [List.length_map] at c'
    exact ⟨_, rfl, _, rfl, a, _, _, _, rfl, rfl, hS, atI_getD V.int ns 0 (Int.natCast_nonneg _) c', q⟩
  · have c' : ¬ (k : Int) < (((ns.map V.int).length : Nat) : Int) := of_decide_eq_false (Bool.eq_false_iff.mpr c)
    rw [List.length_map] at c'
    have e : ns.getD k 0 = 0 := by rw [List.getD_eq_getElem?_getD, List.getElem?_eq_none (by omega)]; rfl
    rw [e] at q
    exact q
/-! ### _law_ranked -/
noncomputable abbrev psRanked : List Str := ["_law_seed"]
noncomputable abbrev nRanked : List Str := ["_law_seed", "_law_rows", "_law_count", "_law_scale", "_law_sides", "_law_k", "_law_which", "_law_rank", "_law_sign", "_law_spot"]
theorem bits_add {x y : Int} {n : Nat} (h : Builtin.Int.intBits x ≤ n) (hy : y.natAbs < 2 ^ n) : Builtin.Int.intBits (x + y) ≤ n + 1 := by
  have key : ∀ z : Int, ∀ m : Nat, z.natAbs < 2 ^ m → Builtin.Int.intBits z ≤ m := fun z m hz => by
    unfold Builtin.Int.intBits
    split
    · exact Nat.zero_le _
    · rename_i h0
      have hz0 : z.natAbs ≠ 0 := by
        intro e; apply h0; rw [Int.natAbs_eq_zero] at e; rw [e]; rfl
      have := (Nat.log2_lt hz0).mpr hz
      omega
  have hx : x.natAbs < 2 ^ n := by
    unfold Builtin.Int.intBits at h
    split at h
    · rename_i h0
      have : x = 0 := by simpa using h0
      rw [this]; exact Nat.lt_of_le_of_lt (Nat.zero_le _) hy
    · rename_i h0
      have hz0 : x.natAbs ≠ 0 := by
        intro e; apply h0; rw [Int.natAbs_eq_zero] at e; rw [e]; rfl
      exact Nat.lt_of_lt_of_le ((Nat.log2_lt hz0).mp (Nat.lt_succ_self _)) (Nat.pow_le_pow_right (by omega) h)
  refine key _ _ ?_
  have h1 : (x + y).natAbs ≤ x.natAbs + y.natAbs := Int.natAbs_add_le x y
  rw [Nat.pow_succ]
  omega


theorem pow_ok {seed : Int} (h : Sized seed) {k : Nat} (hk : k < 10) : CPowB (seed + 31 * k) 2 := by
  obtain ⟨n, hn⟩ : ∃ n : Nat, n = 1048586 := ⟨_, rfl⟩
  have h' : Builtin.Int.intBits seed ≤ n := Nat.le_trans h (by omega)
  have hy : ((31 : Int) * k).natAbs < 2 ^ n := by
    refine Nat.lt_of_lt_of_le (m := 2 ^ 10) ?_ (Nat.pow_le_pow_right (by omega) (by omega))
    omega
  have b := bits_add h' hy
  refine ⟨by decide, ?_⟩
  generalize Builtin.Int.intBits (seed + 31 * k) = z at b
  omega
theorem pos40 : (0 : Int) < 10 ^ (40 : Int).toNat := by decide
theorem free_upd {H : Hp} {a b : Addr} {o : HO} (h : upd H a o b = none) : b ≠ a ∧ H b = none := by
  by_cases e : b = a
  · subst e; rw [upd_same] at h; cases h
  · rw [upd_ne e] at h; exact ⟨e, h⟩
theorem rank_small {i : Int} (h : 0 ≤ i ∧ i < 7) : -(2 ^ 64) < rankMenu.getD i.toNat 0 ∧ rankMenu.getD i.toNat 0 < 2 ^ 64 := by
  have m : rankMenu.getD i.toNat 0 ∈ rankMenu := Fb.getD_mem (by show _ < 7; omega)
  have all : ∀ z ∈ rankMenu, -(2 ^ 64) < z ∧ z < 2 ^ 64 := by decide
  exact all _ m
theorem signAtN : ∀ n : Fin 10, ∃ c, atI (Str.ofString "-+*^</&>=|").cps.toList ((n.val : Nat) : Int) = some c ∧ (⟨#[c]⟩ : Str) = signMenu.getD n.val ""
  | 0 => ⟨45, by decide +kernel, by decide +kernel⟩
  | 1 => ⟨43, by decide +kernel, by decide +kernel⟩
  | 2 => ⟨42, by decide +kernel, by decide +kernel⟩
  | 3 => ⟨94, by decide +kernel, by decide +kernel⟩
  | 4 => ⟨60, by decide +kernel, by decide +kernel⟩
  | 5 => ⟨47, by decide +kernel, by decide +kernel⟩
  | 6 => ⟨38, by decide +kernel, by decide +kernel⟩
  | 7 => ⟨62, by decide +kernel, by decide +kernel⟩
  | 8 => ⟨61, by decide +kernel, by decide +kernel⟩
  | 9 => ⟨124, by decide +kernel, by decide +kernel⟩
theorem signAt (j : Int) (h0 : 0 ≤ j) (h1 : j < 10) : ∃ c, atI (Str.ofString "-+*^</&>=|").cps.toList j = some c ∧ (⟨#[c]⟩ : Str) = signMenu.getD j.toNat "" := by
  obtain ⟨c, a, b⟩ := signAtN ⟨j.toNat, by omega⟩
  have e : ((j.toNat : Nat) : Int) = j := by omega
  rw [e] at a
  exact ⟨c, a, b⟩
theorem rows_keep {H H' : Hp} : ∀ {as : List Addr} {rs : List Row}, RowsAt H as rs → (∀ b xs, H b = some (.tup xs) → H' b = some (.tup xs)) → RowsAt H' as rs
  | _, _, .nil, _ => .nil
  | _, _, .cons h t, k => .cons (k _ _ h) (rows_keep t k)
noncomputable def spRanked : Sp := fun vs H Q _ => ∃ seed : Int, vs = [.int seed] ∧ Sized seed ∧ ∀ (l : Addr) (H' : Hp), Same H H' → H l = none → TabAt H' l (ranked seed) → Q (.ref l) H'
theorem scRanked : FnScope nRanked psRanked (defScope sRanked) := ⟨rfl, rfl, rfl, by decide +kernel, rfl, by decide +kernel, by decide +kernel⟩
theorem ok_ranked {f g : Addr} {fd gd : FuncData} (F : Fun K "_law_ranked" "_law_ranked" sRanked f fd) (GD : FnOk P w K mg base CX0 1 g gd psDraw spDraw) (bD : Binds K gd psDraw []) (kD : PySem.W.keepIn K (.ref g) = true) (mD : mg "_law_draw" = some (.ref g)) (mr : mg "range" = none) :
    FnOk P w K mg base CX0 2 f fd psRanked spRanked := by
  refine F.ok scRanked (fun vs H Q E h => ?_) (fun cdv A outer s H vs Q E hr h => ?_)
  · obtain ⟨seed, rfl, _⟩ := h; rfl
  obtain ⟨seed, rfl, hz, q⟩ := h
  have nd := scRanked.nd
  refine ⟨_, pss_cons (ps_set (i := 1) nd rfl (Or.inl rfl) (pe_lst pa_nil))
    (pss_cons (ps_set (i := 2) nd rfl (Or.inl rfl) (pe_op op_add pe_int (pe_op op_mod (pv 0) pe_int)))
    (pss_cons (ps_set (i := 3) nd rfl (Or.inl rfl) (pe_ix ix_list (pe_lst (pa_cons pe_int (pa_cons (pe_op op_pow pe_int pe_int) (pa_cons pe_int (pa_cons (pe_op op_add pe_int (pe_op op_mod (pv 0) (pe_op op_pow pe_int pe_int))) pa_nil))))) (pe_op op_mod (pe_op op_fdiv (pv 0) pe_int) pe_int) (fun _ _ => rfl)))
    (pss_cons (ps_set (i := 4) nd rfl (Or.inl rfl) (pe_lst pa_nil))
    (pss_cons (ps_for PassesOwn.never rfl (pi_range1 rfl mr (pa_cons pe_int pa_nil)) (pg_name (i := 5) nd rfl (Or.inl rfl))
      (pss_one (ps_expr (pe_bm PySem.F.plainAttrs_list PySem.F.slot_list_append PySem.F.type_list_append mt_append (pv 4) (pa_cons (pe_ix ix_list (pe_lst (pa_cons pe_str (pa_cons pe_str (pa_cons pe_str pa_nil))))
        (pe_call GD hr rfl mD kD bD .nil pass0 (pa_cons (pe_op op_add (pv 0) (pe_op op_mul pe_int (pv 5))) (pa_cons pe_int (pa_cons pe_int pa_nil)))) (fun _ _ => rfl)) pa_nil)))))
    (pss_cons (ps_for PassesOwn.never rfl (pi_range1 rfl mr (pa_cons (pv 2) pa_nil)) (pg_name (i := 5) nd rfl (Or.inl rfl))
      (pss_cons (ps_set (i := 6) nd rfl (Or.inl rfl) (pe_call GD hr rfl mD kD bD .nil pass0 (pa_cons (pe_op op_powB (pe_op op_add (pv 0) (pe_op op_mul pe_int (pv 5))) pe_int) (pa_cons pe_int (pa_cons pe_int pa_nil)))))
      (pss_cons (ps_set (i := 7) nd rfl (Or.inl rfl) (pe_op op_mul (pe_ix ix_list (pe_lst (pa_cons (pe_un un_neg pe_int) (pa_cons pe_int (pa_cons pe_int (pa_cons pe_int (pa_cons pe_int (pa_cons pe_int (pa_cons pe_int pa_nil)))))))) (pv 6) (fun _ _ => rfl)) (pv 3)))
      (pss_cons (ps_set (i := 8) nd rfl (Or.inl rfl) (pe_ix ix_str pe_str (pe_op op_mod (pe_op op_add (pv 5) (pe_op op_fdiv (pv 0) pe_int)) pe_int) (fun _ _ => rfl)))
      (pss_cons (ps_set (i := 9) nd rfl (Or.inl rfl) (pe_call GD hr rfl mD kD bD .nil pass0 (pa_cons (pe_op op_add (pv 0) (pe_op op_mul pe_int (pv 5))) (pa_cons pe_int (pa_cons (pe_op op_add (pv 5) pe_int) pa_nil)))))
      (pss_one (ps_expr (pe_bm PySem.F.plainAttrs_list PySem.F.slot_list_insert PySem.F.type_list_insert mt_insert (pv 1) (pa_cons (pv 9) (pa_cons (pe_tup (pa_cons (pv 8) (pa_cons (pv 7) (pa_cons (pe_ix ix_list (pv 4) (pv 6) (fun _ _ => rfl)) pa_nil)))) pa_nil))))))))))
    (pss_one (ps_ret (pv 1)))))))), ?_⟩
  -- rows = []
  refine ⟨(by show 0 ≤ sizeLine; decide), fun lr hlr => ?_⟩
  -- count
  refine ⟨_, rfl, _, _, rfl, rfl, (by show (0 : Int) < 10; decide), _, _, rfl, rfl, ?_⟩
  -- scale
  refine ⟨_, _, rfl, rfl, ⟨by decide, by decide, by decide⟩, _, rfl, _, _, rfl, rfl, ⟨by decide, by decide, by decide⟩, _, _, rfl, rfl, pos40, _, _, rfl, rfl, (by show 4 ≤ sizeLine; decide), fun p hp => ?_⟩
  have h4 : 0 ≤ seed / 10 % 4 ∧ seed / 10 % 4 < 4 := ⟨Int.emod_nonneg _ (by decide), Int.emod_lt_of_pos _ (by decide)⟩
  refine ⟨_, rfl, _, _, rfl, rfl, ⟨by decide, by decide⟩, _, _, rfl, rfl, (by show (0 : Int) < 4; decide), _, _, _, _, rfl, rfl, SqL.of upd_same, atI_getD V.int (scales seed) 0 h4.1 h4.2, ?_⟩
  -- sides = []
  refine ⟨(by show 0 ≤ sizeLine; decide), fun ls hls => ?_⟩
  obtain ⟨hpl, hp'⟩ := free_upd hp
  obtain ⟨hlp, hls'⟩ := free_upd hls
  obtain ⟨hll, hls0⟩ := free_upd hls'
  -- for k in range(7)
  refine ⟨7, rfl, by decide, by decide, for_range (lo := 0) (n := 7) (fun i σ H2 => ∃ kv : Option V, σ = [some (.int seed), some (.ref lr), some (.int (countI seed)), some (.int (scaleI seed)), some (.ref ls), kv, none, none, none, none] ∧ Same H H2 ∧ H2 lr = some (.lst []) ∧ H2 ls = some (.lst ((sidesL seed i).map V.str))) ?_ ?_ ?_⟩
  · refine ⟨none, rfl, ((Same.new hlr _).put hp' _).put hls0 _, ?_, upd_same⟩
    rw [upd_ne (Ne.symm hll), upd_ne (Ne.symm hpl), upd_same]
  · rintro i σ H2 hi ⟨kv, rfl, e, h1, h2⟩
    rw [show (0 : Int) + (i : Int) = (i : Int) from Int.zero_add _]
    refine ⟨_, rfl, .inl ⟨rfl, _, SqL.of h2⟩, (by show 3 ≤ sizeLine; decide), fun p2 hp2 => ?_⟩
    have d0 := drawI_nonneg (n := seed + 101 * i) (p := 1009) (m := 3) (by omega)
    have d1 := drawI_lt (n := seed + 101 * i) (p := 1009) (m := 3) (by omega)
    have hne : ls ≠ p2 := ne_of_none h2 hp2
    refine ⟨_, rfl, _, rfl, _, _, rfl, rfl, .inl ⟨by decide, by decide⟩, _, _, rfl, rfl, _, _, _, rfl, by decide, by decide, _, _, _, _, rfl, rfl, SqL.of upd_same, atI_getD V.str sideMenu "" d0 d1, _, _, _, rfl, rfl, (by rw [upd_ne hne]; exact h2), ?_, ?_⟩
    · rw [List.length_map]
      unfold sidesL
      rw [List.length_map, List.length_range]
      exact small1000 (by omega)
    · refine ⟨_, rfl, (e.put (e.free hp2) _).put hls0 _, ?_, ?_⟩
      · rw [upd_ne (Ne.symm hll), upd_ne (ne_of_none h1 hp2)]
        exact h1
      · rw [upd_same]
        unfold sidesL
        rw [List.range_succ, List.map_append, List.map_append]
        rfl
  -- for k in range(count)
  · rintro σ H2 ⟨kv, rfl, e, h1, h2⟩
    have hc := countI_pos seed
    refine ⟨_, rfl, countI seed, rfl, by omega, by omega, for_range (lo := 0) (n := (countI seed).toNat) (fun i σ H3 => ∃ kv w1 r1 g1 p1 : Option V, σ = [some (.int seed), some (.ref lr), some (.int (countI seed)), some (.int (scaleI seed)), some (.ref ls), kv, w1, r1, g1, p1] ∧ Same H H3 ∧ TabAt H3 lr (rankedL seed i) ∧ H3 ls = some (.lst ((sidesL seed 7).map V.str))) ?_ ?_ ?_⟩
    · exact ⟨kv, none, none, none, none, rfl, e, ⟨[], h1, .nil⟩, h2⟩
    · rintro i σ H3 hi ⟨kv, w1, r1, g1, p1, rfl, e3, ⟨as, t1, t2⟩, t3⟩
      rw [show (0 : Int) + (i : Int) = (i : Int) from Int.zero_add _]
      -- which
      refine ⟨_, rfl, _, rfl, _, _, rfl, rfl, .inl ⟨by decide, by decide⟩, _, _, rfl, rfl, _, _, rfl, rfl, pow_ok hz (by omega), _, _, _, rfl, by decide, by decide, ?_⟩
      have hw := which_lt seed i
      -- rank
      refine ⟨_, rfl, (by show 7 ≤ sizeLine; decide), fun p2 hp2 => ?_⟩
      refine ⟨_, rfl, _, _, _, _, rfl, rfl, SqL.of upd_same, atI_getD V.int rankMenu 0 hw.1 hw.2, _, rfl, _, _, rfl, rfl, .inl (rank_small hw), ?_⟩
      -- sign
      obtain ⟨c, hc1, hc2⟩ := signAt ((i + seed / 20) % 10) (Int.emod_nonneg _ (by decide)) (Int.emod_lt_of_pos _ (by decide))
      refine ⟨_, rfl, _, rfl, _, _, rfl, rfl, ⟨by decide, by decide⟩, _, _, rfl, rfl, _, _, rfl, rfl, (by show (0 : Int) < 10; decide), _, _, _, rfl, rfl, (by decide +kernel), hc1, ?_⟩
      rw [hc2]
      -- spot
      refine ⟨_, rfl, _, rfl, _, _, rfl, rfl, .inl ⟨by decide, by decide⟩, _, _, rfl, rfl, _, rfl, _, _, rfl, rfl, _, _, _, rfl, by decide, by omega, ?_⟩
      -- insert
      have s0 := drawI_nonneg (n := seed + 17 * i) (p := 1033) (m := i + 1) (by omega)
      have s1 := drawI_lt (n := seed + 17 * i) (p := 1033) (m := i + 1) (by omega)
      have hrp : lr ≠ p2 := ne_of_none t1 hp2
      have hsp : ls ≠ p2 := ne_of_none t3 hp2
      have hlen : as.length = i := by rw [Pr.length t2, rankedL_length]
      refine ⟨_, rfl, .inl ⟨rfl, _, SqL.of (by rw [upd_ne hrp]; exact t1)⟩, _, rfl, _, rfl, _, rfl, _, rfl, _, rfl, _, _, _, _, rfl, rfl, SqL.of (by rw [upd_ne hsp]; exact t3), atI_getD V.str (sidesL seed 7) "" hw.1 (by unfold sidesL; rw [List.length_map, List.length_range]; exact hw.2), (by show 3 ≤ sizeLine; decide), fun p3 hp3 => ?_⟩
      obtain ⟨hp32, hp30⟩ := free_upd hp3
      have hrp3 : lr ≠ p3 := fun z => by rw [← z, t1] at hp30; cases hp30
      have hsp3 : ls ≠ p3 := fun z => by rw [← z, t3] at hp30; cases hp30
      refine ⟨_, _, _, _, rfl, rfl, (by rw [upd_ne hrp3, upd_ne hrp]; exact t1), s0, ?_, ?_, ?_⟩
      · rw [List.length_map, hlen]; omega
      · rw [List.length_map, hlen]; exact small1000 (by omega)
      · refine ⟨_, _, _, _, _, rfl, ((e3.put (e3.free hp2) _).put (e3.free hp30) _).put hlr _, ⟨putAt (spotI seed i).toNat p3 as, ?_, ?_⟩, ?_⟩
        · rw [upd_same, map_putAt]; rfl
        · refine Pr.putAt (R := RowAt _) ?_ _ ?_
          · show upd _ lr _ p3 = _
            rw [upd_ne (Ne.symm hrp3), upd_same]
            rfl
          · refine rows_keep t2 fun b o hb => ?_
            have hb1 : b ≠ p2 := ne_of_none hb hp2
            have hb2 : b ≠ p3 := ne_of_none hb hp30
            have hb3 : b ≠ lr := fun z => by rw [z, t1] at hb; cases hb
            rw [upd_ne hb3, upd_ne hb2, upd_ne hb1]
            exact hb
        · rw [upd_ne (Ne.symm hll).symm, upd_ne hsp3, upd_ne hsp]
          exact t3
    · rintro σ H3 ⟨kv, w1, r1, g1, p1, rfl, e3, t, t3⟩
      exact ⟨_, rfl, q lr H3 e3 hlr t⟩
end
end K05

namespace K05
open PySem L2 Fb PyProof.Rows
seal L2.PE L2.PT L2.PW L2.PA L2.PS L2.PSs L2.PC L2.PG L2.PGs L2.PI L2.PO Fb.PJ
noncomputable abbrev sFlat : Stmt := top 29
inductive FP where
  | tree (t : Rek)
  | sign (sg : Str)
noncomputable def FP.at (H : Hp) : V → FP → Prop
  | v, .tree t => TreeAt H v t
  | v, .sign sg => ∃ a, v = .ref a ∧ H a = some (.tup [.str sg])
theorem FP.keep {H H' : Hp} (k : ∀ b xs, H b = some (.tup xs) → H' b = some (.tup xs)) {v : V} {p : FP} (h : FP.at H v p) : FP.at H' v p := by
  cases p with
  | tree t => exact TreeAt.keep k h
  | sign sg => obtain ⟨a, h1, h2⟩ := h; exact ⟨a, h1, k _ _ h2⟩
noncomputable def FP.wds : FP → List Wd
  | .tree t => flatWd t
  | .sign sg => [.sign sg]
noncomputable def FP.wt : FP → Nat
  | .tree t => 4 * t.size + 1
  | .sign _ => 1
noncomputable def fwt (ps : List FP) : Nat := (ps.map FP.wt).sum
theorem fwt_snoc (ps : List FP) (p : FP) : fwt (ps ++ [p]) = fwt ps + p.wt := by unfold fwt; rw [List.map_append, List.sum_append]; simp
theorem fwt_len (ps : List FP) : ps.length ≤ fwt ps := by
  induction ps with
  | nil => exact Nat.le_refl _
  | cons p r ih =>
    have h : 1 ≤ p.wt := by cases p <;> simp [FP.wt]
    show r.length + 1 ≤ p.wt + fwt r
    omega
noncomputable def fwds (ps : List FP) : List Wd := (ps.reverse.map FP.wds).flatten
theorem fwds_snoc (ps : List FP) (p : FP) : fwds (ps ++ [p]) = p.wds ++ fwds ps := by unfold fwds; rw [List.reverse_append]; simp
noncomputable def wdN (t : Rek) : Nat := (flatWd t).length
section
variable {P : Program} {w : World} {K : PySem.W.Frag} {mg : Str → Option Value} {base : Heap}
noncomputable abbrev psFlat : List Str := ["_law_tree"]
noncomputable abbrev nFlat : List Str := ["_law_tree", "_law_words", "_law_todo", "_law_part"]
noncomputable def spFlat : Sp := fun vs H Q _ => ∃ (v : V) (t : Rek), vs = [v] ∧ TreeAt H v t ∧ t.size ≤ 100 ∧ ∀ l H', Same H H' → H l = none → H' l = some (.lst ((flatWd t).map Wd.v)) → Q (.ref l) H'
theorem scFlat : FnScope nFlat psFlat (defScope sFlat) := ⟨rfl, rfl, rfl, by decide +kernel, rfl, by decide +kernel, by decide +kernel⟩
structure WFlat (v : V) (t : Rek) (H : Hp) (lw lt : Addr) (m : Nat) (σ : L2.St) (H' : Hp) : Prop where
  ex : ∃ (pv : Option V) (ws : List Wd) (us : List V) (ps : List FP), σ = [some v, some (.ref lw), some (.ref lt), pv] ∧ Same H H' ∧ H' lw = some (.lst (ws.map Wd.v)) ∧ H' lt = some (.lst us) ∧ Paired (FP.at H') us ps ∧ ws ++ fwds ps = flatWd t ∧ m = fwt ps ∧ fwt ps ≤ 401
theorem ok_flat {f : Addr} {fd : FuncData} (F : Fun K "_law_flat" "_law_flat" sFlat f fd) (kt : Kits K) (mi : mg "isinstance" = none) (mt : mg "tuple" = none) (ml : mg "len" = none) : FnOk P w K mg base CX0 1 f fd psFlat spFlat := by
  refine F.ok scFlat (fun vs H Q E h => ?_) (fun cdv A outer s H vs Q E hr h => ?_)
  · obtain ⟨v, t, rfl, _⟩ := h; rfl
  obtain ⟨v, t, rfl, ht, hsz, q⟩ := h
  have nd := scFlat.nd
  have hu := units_of hr
  refine ⟨_, pss_cons (ps_set (i := 1) nd rfl (Or.inl rfl) (pe_lst pa_nil)) (pss_cons (ps_set (i := 2) nd rfl (Or.inl rfl) (pe_lst (pa_cons (pv 0) pa_nil)))
    (pss_cons (ps_while PassesOwn.never (pt_cmpR (op_neNil hu) (pv 2) (pe_lst pa_nil) (nomark _))
      (pss_cons (ps_set (i := 3) nd rfl (Or.inl rfl) (pe_bm0 PySem.F.plainAttrs_list PySem.F.slot_list_pop PySem.F.type_list_pop mt_pop (pv 2)))
      (pss_one (ps_if (PW.pt (pw_and (pt_val (pe_callB call_isi rfl mi rfl (pa_cons (pv 3) (pa_cons (pe_bltn (v := .ty "tuple") rfl mt rfl rfl) pa_nil)))) (pw_and1 (pt_cmpR op_eq (pe_callB call_len_seq rfl ml PySem.boot_len (pa_cons (pv 3) pa_nil)) pe_int (nomark _)))))
        (pss_cons (ps_expr (pe_bm PySem.F.plainAttrs_list PySem.F.slot_list_append PySem.F.type_list_append mt_append (pv 2) (pa_cons (pe_ix ix_tup (pv 3) pe_int (fun _ _ => rfl)) pa_nil)))
        (pss_cons (ps_expr (pe_bm PySem.F.plainAttrs_list PySem.F.slot_list_append PySem.F.type_list_append mt_append (pv 2) (pa_cons (pe_tup (pa_cons (pe_ix ix_tup (pv 3) pe_int (fun _ _ => rfl)) pa_nil)) pa_nil)))
        (pss_one (ps_expr (pe_bm PySem.F.plainAttrs_list PySem.F.slot_list_append PySem.F.type_list_append mt_append (pv 2) (pa_cons (pe_ix ix_tup (pv 3) pe_int (fun _ _ => rfl)) pa_nil))))))
        (pss_one (ps_if (pt_val (pe_callB call_isi rfl mi rfl (pa_cons (pv 3) (pa_cons (pe_bltn (v := .ty "tuple") rfl mt rfl rfl) pa_nil))))
          (pss_one (ps_expr (pe_bm PySem.F.plainAttrs_list PySem.F.slot_list_append PySem.F.type_list_append mt_append (pv 1) (pa_cons (pe_ix ix_tup (pv 3) pe_int (fun _ _ => rfl)) pa_nil))))
          (pss_one (ps_expr (pe_bm PySem.F.plainAttrs_list PySem.F.slot_list_append PySem.F.type_list_append mt_append (pv 1) (pa_cons (pv 3) pa_nil))))))))))
    (pss_one (ps_ret (pv 1))))), ?_⟩
  refine ⟨(by show 0 ≤ sizeLine; decide), fun lw hlw => ?_⟩
  refine ⟨_, rfl, (by show 1 ≤ sizeLine; decide), fun lt hlt => ?_⟩
  obtain ⟨nwt, hlt0⟩ := free_upd hlt
  have e0 : Same H (upd (upd H lw (.lst [])) lt (.lst [v])) := (Same.new hlw _).put hlt0 _
  refine ⟨WFlat v t H lw lt, ⟨_, none, [], [v], [.tree t], rfl, e0, by rw [upd_ne (Ne.symm nwt), upd_same]; rfl, upd_same, .cons (FP.keep (p := .tree t) (fun b xs z => e0 _ _ z) ht) .nil, ?_, rfl, ?_⟩, ?_⟩
  · show [] ++ (flatWd t ++ []) = _; simp
  · show 4 * t.size + 1 + 0 ≤ 401; omega
  rintro m σ H' ⟨pv, ws, us, ps, rfl, e1, h1, h2, hp, hout, rfl, hwt⟩
  refine ⟨_, rfl, (by show 0 ≤ sizeLine; decide), fun n0 hn0 => ?_⟩
  have hln : lt ≠ n0 := ne_of_none h2 hn0
  have hwn : lw ≠ n0 := ne_of_none h1 hn0
  refine ⟨_, _, _, rfl, rfl, (by rw [upd_ne hln]; exact h2), upd_same, _, rfl, ?_⟩
  have e2 : Same H (upd H' n0 (.lst [])) := e1.put (e1.free hn0) _
  have h1' : upd H' n0 (.lst []) lw = some (.lst (ws.map Wd.v)) := by rw [upd_ne hwn]; exact h1
  have h2' : upd H' n0 (.lst []) lt = some (.lst us) := by rw [upd_ne hln]; exact h2
  have hp' := Pr.mono (fun v p h => FP.keep (fun b xs z => (show upd H' n0 (.lst []) b = some (.tup xs) from by rw [upd_ne (ne_of_none z hn0)]; exact z)) h) hp
  generalize upd H' n0 (.lst []) = H2 at e2 h1' h2' hp' ⊢
  clear e1 h1 h2 hp hn0 hln hwn
  by_cases hus : us = []
  · subst hus
    cases hp'
    refine iteF ?_
    have eo : ws = flatWd t := by simpa [fwds] using hout
    rw [eo] at h1'
    exact ⟨_, rfl, q lw H2 e2 hlw h1'⟩
  · obtain ⟨us', vp, rfl⟩ := snoc_of hus
    obtain ⟨ps', p, rfl, hp1, hp2⟩ := Pr.unsnoc hp'
    have et : (!(us' ++ [vp]).isEmpty) = true := by cases us' <;> rfl
    rw [et]
    refine iteT ?_
    refine ⟨fun σ' H2 => ∃ m', m' < fwt (ps' ++ [p]) ∧ WFlat v t H lw lt m' σ' H2, fun _ _ z => z, ?_⟩
    refine ⟨_, rfl, .inl ⟨rfl, _, SqL.of h2'⟩, lt, _, vp, rfl, rfl, h2', last_snoc _ _, ?_⟩
    rw [List.dropLast_concat]
    have kp : ∀ b xs, H2 b = some (.tup xs) → upd H2 lt (.lst us') b = some (.tup xs) := fun b xs z => by rw [upd_ne (fun y => by rw [y, h2'] at z; cases z)]; exact z
    have e3 : Same H (upd H2 lt (.lst us')) := e2.put hlt0 _
    have h3w : upd H2 lt (.lst us') lw = some (.lst (ws.map Wd.v)) := by rw [upd_ne (Ne.symm nwt)]; exact h1'
    have h3t : upd H2 lt (.lst us') lt = some (.lst us') := upd_same
    have hp3 := Pr.mono (fun v p h => FP.keep kp h) hp1
    have hp4 := FP.keep kp hp2
    generalize upd H2 lt (.lst us') = H3 at e3 h3w h3t hp3 hp4 ⊢
    rw [fwt_snoc] at hwt
    have hps := fwt_len ps'
    have lenU := Pr.length hp3
    rw [fwds_snoc] at hout
    have lenW : ws.length ≤ wdN t := by unfold wdN; rw [← hout, List.length_append]; omega
    have wdn : ∀ u : Rek, wdN u = 2 * u.size + 1 := fun u => by
      induction u with
      | num n => rfl
      | name n => rfl
      | node sg l r ihl ihr =>
        unfold wdN at *
        show (flatWd l ++ .sign sg :: flatWd r).length = 2 * (l.size + r.size + 1) + 1
        rw [List.length_append, List.length_cons, ihl, ihr]; omega
    rw [wdn] at lenW
    -- a word is put behind
    have put : ∀ x : Wd, p.wds = [x] → ∃ l xs y, V.ref lw = .ref l ∧ [x.v] = [y] ∧ H3 l = some (.lst xs) ∧ xs.length < sizeLine ∧ ∃ m', m' < fwt (ps' ++ [p]) ∧ WFlat v t H lw lt m' [some v, some (.ref lw), some (.ref lt), some vp] (upd H3 l (.lst (xs ++ [y]))) := fun x hx => by
      refine ⟨lw, _, _, rfl, rfl, h3w, by rw [List.length_map]; exact small1000 (by omega), fwt ps', ?_, _, ws ++ [x], us', ps', rfl, e3.put hlw _, ?_, ?_, ?_, ?_, rfl, by omega⟩
      · rw [fwt_snoc]
        have : 1 ≤ p.wt := by cases p <;> simp [FP.wt]
        omega
      · rw [upd_same, List.map_append]; rfl
      · rw [upd_ne nwt]; exact h3t
      · exact Pr.mono (fun v p h => FP.keep (fun b xs y => by rw [upd_ne (fun x => by rw [x, h3w] at y; cases y)]; exact y) h) hp3
      · rw [← hout, hx]; simp
    cases p with
    | sign sg =>
      obtain ⟨a, rfl, ha⟩ := hp4
      refine ⟨_, rfl, _, _, _, _, rfl, .tup ha, kt.tt, _, rfl, iteT ?_⟩
      refine ⟨_, rfl, a, _, rfl, .inr (SqT.of ha), rfl, _, rfl, iteF ?_⟩
      refine ⟨_, rfl, _, _, _, _, rfl, .tup ha, kt.tt, _, rfl, iteT ?_⟩
      exact ⟨_, rfl, .inl ⟨rfl, _, SqL.of h3w⟩, _, rfl, a, _, 0, .str sg, rfl, rfl, SqT.of ha, rfl, put (.sign sg) rfl⟩
    | tree u =>
      have hty := TreeAt.tyOf (K := K) hp4
      cases u with
      | num n =>
        refine ⟨_, rfl, _, _, _, _, rfl, hty, kt.it, _, rfl, iteF (iteF ?_)⟩
        refine ⟨_, rfl, _, _, _, _, rfl, hty, kt.it, _, rfl, iteF ?_⟩
        cases (show vp = .int n from hp4)
        exact ⟨_, rfl, .inl ⟨rfl, _, SqL.of h3w⟩, _, rfl, put (.leaf (.num n)) rfl⟩
      | name n =>
        refine ⟨_, rfl, _, _, _, _, rfl, hty, kt.st, _, rfl, iteF (iteF ?_)⟩
        refine ⟨_, rfl, _, _, _, _, rfl, hty, kt.st, _, rfl, iteF ?_⟩
        cases (show vp = .str n from hp4)
        exact ⟨_, rfl, .inl ⟨rfl, _, SqL.of h3w⟩, _, rfl, put (.leaf (.name n)) rfl⟩
      | node sg l r =>
        obtain ⟨a, vl, vr, rfl, ha, hl, hrr⟩ := hp4
        refine ⟨_, rfl, _, _, _, _, rfl, hty, kt.tt, _, rfl, iteT ?_⟩
        refine ⟨_, rfl, a, _, rfl, .inr (SqT.of ha), rfl, _, rfl, iteT ?_⟩
        have l1 : us'.length ≤ 401 := by omega
        have hwt' : fwt ps' + (4 * (l.size + r.size + 1) + 1) ≤ 401 := hwt
        refine ⟨_, rfl, .inl ⟨rfl, _, SqL.of h3t⟩, _, rfl, a, _, 2, vr, rfl, rfl, SqT.of ha, rfl, lt, _, _, rfl, rfl, h3t, small1000 (by omega), ?_⟩
        have k4 : ∀ b xs, H3 b = some (.tup xs) → upd H3 lt (.lst (us' ++ [vr])) b = some (.tup xs) := fun b xs z => by rw [upd_ne (fun y => by rw [y, h3t] at z; cases z)]; exact z
        have h4 : upd H3 lt (.lst (us' ++ [vr])) lt = some (.lst (us' ++ [vr])) := upd_same
        have ha4 := k4 _ _ ha
        have e4 : Same H (upd H3 lt (.lst (us' ++ [vr]))) := e3.put hlt0 _
        have h4w : upd H3 lt (.lst (us' ++ [vr])) lw = some (.lst (ws.map Wd.v)) := by rw [upd_ne (Ne.symm nwt)]; exact h3w
        generalize upd H3 lt (.lst (us' ++ [vr])) = H4 at k4 h4 ha4 e4 h4w ⊢
        refine ⟨_, rfl, .inl ⟨rfl, _, SqL.of h4⟩, _, rfl, a, _, 0, .str sg, rfl, rfl, SqT.of ha4, rfl, (by show 1 ≤ sizeLine; decide), fun n1 hn1 => ?_⟩
        have n1t : lt ≠ n1 := ne_of_none h4 hn1
        have n1w : lw ≠ n1 := ne_of_none h4w hn1
        refine ⟨lt, _, _, rfl, rfl, (by rw [upd_ne n1t]; exact h4), small1000 (by rw [List.length_append]; show us'.length + 1 ≤ 1000; omega), ?_⟩
        have k5 : ∀ b xs, H4 b = some (.tup xs) → upd (upd H4 n1 (.tup [.str sg])) lt (.lst (us' ++ [vr] ++ [.ref n1])) b = some (.tup xs) := fun b xs z => by
          rw [upd_ne (fun y => by rw [y, h4] at z; cases z), upd_ne (ne_of_none z hn1)]; exact z
        have h5 : upd (upd H4 n1 (.tup [.str sg])) lt (.lst (us' ++ [vr] ++ [.ref n1])) lt = some (.lst (us' ++ [vr] ++ [.ref n1])) := upd_same
        have h5n : upd (upd H4 n1 (.tup [.str sg])) lt (.lst (us' ++ [vr] ++ [.ref n1])) n1 = some (.tup [.str sg]) := by rw [upd_ne (Ne.symm n1t), upd_same]
        have e5 : Same H (upd (upd H4 n1 (.tup [.str sg])) lt (.lst (us' ++ [vr] ++ [.ref n1]))) := (e4.put (e4.free hn1) _).put hlt0 _
        have h5w : upd (upd H4 n1 (.tup [.str sg])) lt (.lst (us' ++ [vr] ++ [.ref n1])) lw = some (.lst (ws.map Wd.v)) := by rw [upd_ne (Ne.symm nwt), upd_ne n1w]; exact h4w
        have ha5 := k5 _ _ ha4
        generalize upd (upd H4 n1 (.tup [.str sg])) lt (.lst (us' ++ [vr] ++ [.ref n1])) = H5 at k5 h5 h5n e5 h5w ha5 ⊢
        refine ⟨_, rfl, .inl ⟨rfl, _, SqL.of h5⟩, _, rfl, a, _, 1, vl, rfl, rfl, SqT.of ha5, rfl, lt, _, _, rfl, rfl, h5, small1000 (by simp only [List.length_append, List.length_cons, List.length_nil]; omega), ?_⟩
        have k6 : ∀ b xs, H5 b = some (.tup xs) → upd H5 lt (.lst (us' ++ [vr] ++ [.ref n1] ++ [vl])) b = some (.tup xs) := fun b xs z => by rw [upd_ne (fun y => by rw [y, h5] at z; cases z)]; exact z
        have k36 : ∀ b xs, H3 b = some (.tup xs) → upd H5 lt (.lst (us' ++ [vr] ++ [.ref n1] ++ [vl])) b = some (.tup xs) := fun b xs z => k6 _ _ (k5 _ _ (k4 _ _ z))
        refine ⟨fwt (ps' ++ [.tree r] ++ [.sign sg] ++ [.tree l]), ?_, _, ws, _, ps' ++ [.tree r] ++ [.sign sg] ++ [.tree l], rfl, e5.put hlt0 _, by rw [upd_ne (Ne.symm nwt)]; exact h5w, upd_same, ?_, ?_, rfl, ?_⟩
        · rw [fwt_snoc, fwt_snoc, fwt_snoc, fwt_snoc]
          show fwt ps' + (4 * r.size + 1) + 1 + (4 * l.size + 1) < fwt ps' + (4 * (l.size + r.size + 1) + 1)
          omega
        · exact Pr.append (Pr.append (Pr.append (Pr.mono (fun v p h => FP.keep k36 h) hp3) (.cons (FP.keep (p := .tree r) k36 hrr) .nil)) (.cons ⟨n1, rfl, k6 _ _ h5n⟩ .nil)) (.cons (FP.keep (p := .tree l) k36 hl) .nil)
        · rw [fwds_snoc, fwds_snoc, fwds_snoc, ← hout]
          show ws ++ (flatWd l ++ ([Wd.sign sg] ++ (flatWd r ++ fwds ps'))) = ws ++ ((flatWd l ++ .sign sg :: flatWd r) ++ fwds ps')
          simp
        · rw [fwt_snoc, fwt_snoc, fwt_snoc]
          show fwt ps' + (4 * r.size + 1) + 1 + (4 * l.size + 1) ≤ 401
          omega
end
end K05

namespace K05
open PySem L2 Fb PyProof.Rows
seal L2.PE L2.PT L2.PW L2.PA L2.PS L2.PSs L2.PC L2.PG L2.PGs L2.PI L2.PO Fb.PJ
noncomputable abbrev sMatched : Stmt := top 30
noncomputable abbrev sClash : Stmt := top 31
theorem at_map {α : Type} {f : α → V} {S : List α} {i : Nat} {s : α} (h : S[i]? = some s) {z : Int} (hz : z = (i : Nat)) : atI (S.map f) z = some (f s) := by
  have hl : i < S.length := (List.getElem?_eq_some_iff.mp h).1
  have := atI_getD f S s (i := z) (by omega) (by omega)
  rw [this, hz]
  simp [List.getD, h]
theorem clashB_cons (rs : List Row) (s : Str) (r : List Str) : clashB rs (s :: r) = ((decide (sideOf rs s = "none") && hits rs s r) || clashB rs r) := rfl
theorem hits_cons (rs : List Row) (s t : Str) (r : List Str) : hits rs s (t :: r) = (if rankOf rs t < rankOf rs s then false else if rankOf rs t = rankOf rs s then true else hits rs s r) := rfl
section
variable {P : Program} {w : World} {K : PySem.W.Frag} {mg : Str → Option Value} {base : Heap}
/-! ### _law_matched -/
noncomputable abbrev psMatched : List Str := ["_law_found", "_law_due"]
noncomputable abbrev nMatched : List Str := ["_law_found", "_law_due", "_law_k"]
noncomputable def spMatched : Sp := fun vs H Q _ => ∃ (a b : Addr) (xs : List V), vs = [.ref a, .ref b] ∧ H a = some (.lst xs) ∧ H b = some (.lst xs) ∧ xs.length ≤ 1000 ∧ (∀ x ∈ xs, plainV x = true) ∧ Q (.bl true) H
theorem scMatched : FnScope nMatched psMatched (defScope sMatched) := ⟨rfl, rfl, rfl, by decide +kernel, rfl, by decide +kernel, by decide +kernel⟩
theorem plain_ty {H : Hp} (kt : Kits K) {x : V} (h : plainV x = true) : ∃ t b, TyOf K H x t ∧ PySem.W.kitOne K t (.type "str") = some b := by
  cases x with
  | int i => exact ⟨_, _, .int i, kt.is⟩
  | str i => exact ⟨_, _, .str i, kt.ss⟩
  | _ => cases h
theorem ok_matched {f : Addr} {fd : FuncData} (F : Fun K "_law_matched" "_law_matched" sMatched f fd) (kt : Kits K) (mi : mg "isinstance" = none) (ms : mg "str" = none) (ml : mg "len" = none) (mr : mg "range" = none) : FnOk P w K mg base CX0 1 f fd psMatched spMatched := by
  refine F.ok scMatched (fun vs H Q E h => ?_) (fun cdv A outer s H vs Q E hr h => ?_)
  · obtain ⟨a, b, xs, rfl, _⟩ := h; rfl
  obtain ⟨a, b, xs, rfl, ha, hb, hl, hp, q⟩ := h
  have nd := scMatched.nd
  have hu := units_of hr
  refine ⟨_, pss_cons (ps_if (pt_cmpR op_ne (pe_callB call_len_seq rfl ml PySem.boot_len (pa_cons (pv 0) pa_nil)) (pe_callB call_len_seq rfl ml PySem.boot_len (pa_cons (pv 1) pa_nil)) (nomark _)) (pss_one (ps_ret pe_bl)) pss_nil)
    (pss_cons (ps_for PassesOwn.never rfl (pi_range1 rfl mr (pa_cons (pe_callB call_len_seq rfl ml PySem.boot_len (pa_cons (pv 1) pa_nil)) pa_nil)) (pg_name (i := 2) nd rfl (Or.inl rfl))
      (pss_one (ps_if (pt_cmpR op_ne (pe_callB call_isi rfl mi rfl (pa_cons (pe_ix ix_list (pv 1) (pv 2) (fun _ _ => rfl)) (pa_cons (pe_bltn (v := .ty "str") rfl ms rfl rfl) pa_nil))) (pe_callB call_isi rfl mi rfl (pa_cons (pe_ix ix_list (pv 0) (pv 2) (fun _ _ => rfl)) (pa_cons (pe_bltn (v := .ty "str") rfl ms rfl rfl) pa_nil))) (nomark _)) (pss_one (ps_ret pe_bl)) pss_nil)))
    (pss_one (ps_ret (pe_cmpR (op_eqLst hu) (pv 0) (pv 1) (nomark _))))), ?_⟩
  refine ⟨_, rfl, a, xs, rfl, .inl (SqL.of ha), _, rfl, b, xs, rfl, .inl (SqL.of hb), rfl, _, rfl, iteNS rfl ?_⟩
  refine ⟨_, rfl, b, xs, rfl, .inl (SqL.of hb), _, rfl, by omega, by omega, for_range (lo := 0) (n := ((xs.length : Nat) : Int).toNat) (fun i σ H2 => ∃ kv : Option V, σ = [some (.ref a), some (.ref b), kv] ∧ H2 = H) ⟨none, rfl, rfl⟩ ?_ ?_⟩
  · rintro i σ H2 hi ⟨kv, rfl, rfl⟩
    have hi' : i < xs.length := by simpa using hi
    have hx : atI xs ((0 : Int) + (i : Int)) = some xs[i] := by
      have := at_map (f := id) (S := xs) (i := i) (s := xs[i]) (by simp [hi']) (z := (0 : Int) + (i : Int)) (by omega)
      simpa using this
    obtain ⟨t, c, hty, hk⟩ := plain_ty (K := K) (H := H2) kt (hp xs[i] (List.getElem_mem hi'))
    refine ⟨_, rfl, _, rfl, b, xs, _, _, rfl, rfl, SqL.of hb, hx, _, _, _, _, rfl, hty, hk, _, rfl, _, rfl, a, xs, _, _, rfl, rfl, SqL.of ha, hx, _, _, _, _, rfl, hty, hk, rfl, _, rfl, iteNS rfl ⟨_, rfl, rfl⟩⟩
  · rintro σ H2 ⟨kv, rfl, rfl⟩
    exact ⟨_, rfl, _, rfl, a, b, xs, rfl, rfl, ha, hb, hp, q⟩
/-! ### _law_clash -/
noncomputable abbrev psClash : List Str := ["_law_signs", "_law_ranks", "_law_sides"]
noncomputable abbrev nClash : List Str := ["_law_signs", "_law_ranks", "_law_sides", "_law_k", "_law_j"]
noncomputable abbrev RankD (H : Hp) (d : Addr) (rs : List Row) : Prop := SgD H d rs fun s => .int (rankOf rs s)
noncomputable abbrev SideD (H : Hp) (d : Addr) (rs : List Row) : Prop := SgD H d rs fun s => .str (sideOf rs s)
noncomputable def spClash : Sp := fun vs H Q _ => ∃ (l dr ds : Addr) (S : List Str) (rs : List Row), vs = [.ref l, .ref dr, .ref ds] ∧ H l = some (.lst (S.map V.str)) ∧ S.length ≤ 1000 ∧ (∀ s ∈ S, s ∈ signsOf rs) ∧ RankD H dr rs ∧ SideD H ds rs ∧ Q (.bl (clashB rs S)) H
theorem scClash : FnScope nClash psClash (defScope sClash) := ⟨rfl, rfl, rfl, by decide +kernel, rfl, by decide +kernel, by decide +kernel⟩
theorem ok_clash {f : Addr} {fd : FuncData} (F : Fun K "_law_clash" "_law_clash" sClash f fd) (ml : mg "len" = none) (mr : mg "range" = none) : FnOk P w K mg base CX0 1 f fd psClash spClash := by
  refine F.ok scClash (fun vs H Q E h => ?_) (fun cdv A outer s H vs Q E hr h => ?_)
  · obtain ⟨l, dr, ds, S, rs, rfl, _⟩ := h; rfl
  obtain ⟨l, dr, ds, S, rs, rfl, hl, hn, hS, hR, hD, q⟩ := h
  have nd := scClash.nd
  have hu := hu_of hr
  refine ⟨_, pss_cons (ps_for PassesOwn.never rfl (pi_range1 rfl mr (pa_cons (pe_callB call_len_seq rfl ml PySem.boot_len (pa_cons (pv 0) pa_nil)) pa_nil)) (pg_name (i := 3) nd rfl (Or.inl rfl))
      (pss_one (ps_if (pt_cmpR op_eq (pe_dget hu (pv 2) (pe_ix ix_list (pv 0) (pv 3) (fun _ _ => rfl)) (fun _ _ => rfl)) pe_str (nomark _))
        (pss_one (ps_for PassesOwn.never rfl (pi_range2 rfl mr (pa_cons (pe_op op_add (pv 3) pe_int) (pa_cons (pe_callB call_len_seq rfl ml PySem.boot_len (pa_cons (pv 0) pa_nil)) pa_nil))) (pg_name (i := 4) nd rfl (Or.inl rfl))
          (pss_cons (ps_if (pt_cmpR op_lt (pe_dget hu (pv 1) (pe_ix ix_list (pv 0) (pv 4) (fun _ _ => rfl)) (fun _ _ => rfl)) (pe_dget hu (pv 1) (pe_ix ix_list (pv 0) (pv 3) (fun _ _ => rfl)) (fun _ _ => rfl)) (nomark _)) (pss_one ps_break) pss_nil)
          (pss_one (ps_if (pt_cmpR op_eq (pe_dget hu (pv 1) (pe_ix ix_list (pv 0) (pv 4) (fun _ _ => rfl)) (fun _ _ => rfl)) (pe_dget hu (pv 1) (pe_ix ix_list (pv 0) (pv 3) (fun _ _ => rfl)) (fun _ _ => rfl)) (nomark _)) (pss_one (ps_ret pe_bl)) pss_nil)))))
        pss_nil)))
    (pss_one (ps_ret pe_bl)), ?_⟩
  refine ⟨_, rfl, l, _, rfl, .inl (SqL.of hl), _, rfl, by rw [List.length_map]; omega, by rw [List.length_map]; omega, for_range (lo := 0) (n := (((S.map V.str).length : Nat) : Int).toNat) (fun i σ H2 => ∃ kv jv : Option V, σ = [some (.ref l), some (.ref dr), some (.ref ds), kv, jv] ∧ H2 = H ∧ clashB rs S = clashB rs (S.drop i)) ⟨none, none, rfl, rfl, rfl⟩ ?_ ?_⟩
  · rintro i σ H2 hi ⟨kv, jv, rfl, rfl, hc⟩
    have hi' : i < S.length := by simpa using hi
    have gi : S[i]? = some S[i] := by simp [hi']
    have mi := hS S[i] (List.getElem_mem hi')
    have hx := at_map (f := V.str) gi (z := (0 : Int) + (i : Int)) (by omega)
    rw [List.drop_eq_getElem_cons hi'] at hc
    generalize S[i] = s0 at gi mi hx hc
    refine ⟨_, rfl, _, rfl, _, rfl, l, _, _, _, rfl, rfl, SqL.of hl, hx, ds, _, rfl, hD.get mi, rfl, _, rfl, ite2 (fun c => ?_) (fun c => ?_)⟩
    · have c' : sideOf rs s0 = "none" := by
        have := of_decide_eq_true c
        injection this
      have hc' : clashB rs S = (hits rs s0 (S.drop (i + 1)) || clashB rs (S.drop (i + 1))) := by
        rw [hc, clashB_cons, decide_eq_true c', Bool.true_and]
      refine ⟨_, rfl, _, _, rfl, rfl, _, rfl, l, _, rfl, .inl (SqL.of hl), _, _, rfl, ?_, for_range (lo := ((0 : Int) + (i : Int)) + 1) (n := ((((S.map V.str).length : Nat) : Int) - (((0 : Int) + (i : Int)) + 1)).toNat) (fun j σ H3 => ∃ jv : Option V, σ = [some (.ref l), some (.ref dr), some (.ref ds), some (.int ((0 : Int) + (i : Int))), jv] ∧ H3 = H2 ∧ hits rs s0 (S.drop (i + 1)) = hits rs s0 (S.drop (i + 1 + j))) ⟨_, rfl, rfl, rfl⟩ ?_ ?_⟩
      · rw [List.length_map]; omega
      · rintro j σ H3 hj ⟨jv, rfl, rfl, hh⟩
        rw [List.length_map] at hj
        have hj' : i + 1 + j < S.length := by omega
        have gj : S[i + 1 + j]? = some S[i + 1 + j] := by simp [hj']
        have mj := hS S[i + 1 + j] (List.getElem_mem hj')
        have hy := at_map (f := V.str) gj (z := (((0 : Int) + (i : Int)) + 1) + (j : Int)) (by omega)
        rw [List.drop_eq_getElem_cons hj'] at hh
        generalize S[i + 1 + j] = t0 at gj mj hy hh
        rw [hits_cons] at hh
        refine ⟨_, rfl, _, rfl, _, rfl, l, _, _, _, rfl, rfl, SqL.of hl, hy, dr, _, rfl, hR.get mj, _, rfl, _, rfl, _, rfl, l, _, _, _, rfl, rfl, SqL.of hl, hx, dr, _, rfl, hR.get mi, _, _, rfl, rfl, _, rfl, ite2 (fun c1 => ?_) (fun c1 => ?_)⟩
        · have c1' : rankOf rs t0 < rankOf rs s0 := of_decide_eq_true c1
          have hf : hits rs s0 (S.drop (i + 1)) = false := by
            rw [if_pos c1'] at hh
            exact hh
          exact ⟨_, _, rfl, rfl, by rw [hc', hf, Bool.false_or]⟩
        · have c1' : ¬ rankOf rs t0 < rankOf rs s0 := fun z => c1 (decide_eq_true z)
          refine ⟨_, rfl, _, rfl, _, rfl, l, _, _, _, rfl, rfl, SqL.of hl, hy, dr, _, rfl, hR.get mj, _, rfl, _, rfl, _, rfl, l, _, _, _, rfl, rfl, SqL.of hl, hx, dr, _, rfl, hR.get mi, rfl, _, rfl, ite2 (fun c2 => ?_) (fun c2 => ?_)⟩
          · have c2' : rankOf rs t0 = rankOf rs s0 := by
              have := of_decide_eq_true c2
              injection this
            have hf : hits rs s0 (S.drop (i + 1)) = true := by
              rw [if_neg c1', if_pos c2'] at hh
              exact hh
            have : clashB rs S = true := by rw [hc', hf, Bool.true_or]
            rw [this] at q
            exact q
          · have c2' : ¬ rankOf rs t0 = rankOf rs s0 := fun z => c2 (by rw [z]; exact decide_eq_true rfl)
            refine ⟨_, rfl, rfl, ?_⟩
            rw [if_neg c1', if_neg c2'] at hh
            exact hh
      · rintro σ H3 ⟨jv, rfl, rfl, hh⟩
        rw [List.length_map] at hh
        have hf : hits rs s0 (S.drop (i + 1)) = false := by
          rw [hh, List.drop_eq_nil_of_le (by omega)]; rfl
        exact ⟨_, _, rfl, rfl, by rw [hc', hf, Bool.false_or]⟩
    · have c' : ¬ sideOf rs s0 = "none" := fun z => c (by rw [z]; exact decide_eq_true rfl)
      refine ⟨_, _, rfl, rfl, ?_⟩
      rw [hc, clashB_cons, decide_eq_false c', Bool.false_and, Bool.false_or]
  · rintro σ H2 ⟨kv, jv, rfl, rfl, hc⟩
    rw [List.drop_eq_nil_of_le (by rw [List.length_map]; omega)] at hc
    have : clashB rs S = false := hc
    rw [this] at q
    exact q
end
end K05

namespace K05
open PySem L2 Fb PyProof.Rows
seal L2.PE L2.PT L2.PW L2.PA L2.PS L2.PSs L2.PC L2.PG L2.PGs L2.PI L2.PO Fb.PJ
noncomputable abbrev sWhole : Stmt := top 25
noncomputable abbrev sBinds : Stmt := top 32
section
variable {P : Program} {w : World} {K : PySem.W.Frag} {mg : Str → Option Value} {base : Heap}
noncomputable abbrev psWhole : List Str := ["_law_found"]
noncomputable def spWhole : Sp := fun vs H Q _ => ∃ (v : V) (t : Rek), vs = [v] ∧ TreeAt H v t ∧ Q (.bl t.isNum) H
theorem scWhole : FnScope psWhole psWhole (defScope sWhole) := ⟨rfl, rfl, rfl, by decide +kernel, rfl, by decide +kernel, by decide +kernel⟩
theorem ok_whole {f : Addr} {fd : FuncData} (F : Fun K "_law_whole" "_law_whole" sWhole f fd) (kt : Kits K) (mi : mg "isinstance" = none) (mn : mg "int" = none) (mb : mg "bool" = none) : FnOk P w K mg base CX0 1 f fd psWhole spWhole := by
  refine F.ok scWhole (fun vs H Q E h => ?_) (fun cdv A outer s H vs Q E hr h => ?_)
  · obtain ⟨v, t, rfl, _⟩ := h; rfl
  obtain ⟨v, t, rfl, ht, q⟩ := h
  refine ⟨_, pss_one (ps_ret (pe_and (pe_callB call_isi rfl mi rfl (pa_cons (pv 0) (pa_cons (pe_bltn (v := .ty "int") rfl mn rfl rfl) pa_nil))) (pe_one (pe_not (pe_callB call_isi rfl mi rfl (pa_cons (pv 0) (pa_cons (pe_bltn (v := .ty "bool") rfl mb rfl rfl) pa_nil))))))), ?_⟩
  refine ⟨_, rfl, _, _, _, _, rfl, ht.tyOf, kt.int t, _, rfl, ?_⟩
  cases t with
  | num n =>
    refine iteT ?_
    exact ⟨_, rfl, _, _, _, _, rfl, ht.tyOf, kt.ib, _, rfl, q⟩
  | name s => exact iteF q
  | node sg l r => exact iteF q
/-! ### _law_binds -/
noncomputable def bwt (ts : List Rek) : Nat := (ts.map fun t => 2 * t.size + 1).sum
theorem bwt_snoc (ts : List Rek) (t : Rek) : bwt (ts ++ [t]) = bwt ts + (2 * t.size + 1) := by unfold bwt; rw [List.map_append, List.sum_append]; simp
theorem bwt_len (ts : List Rek) : ts.length ≤ bwt ts := by
  induction ts with
  | nil => exact Nat.le_refl _
  | cons t r ih => show r.length + 1 ≤ (2 * t.size + 1) + bwt r; omega
noncomputable abbrev psBinds : List Str := ["_law_tree", "_law_ranks", "_law_sides"]
noncomputable abbrev nBinds : List Str := ["_law_tree", "_law_ranks", "_law_sides", "_law_todo", "_law_part", "_law_place", "_law_inner", "_law_less", "_law_over", "_law_side"]
noncomputable def spBinds : Sp := fun vs H Q _ => ∃ (v : V) (t : Rek) (dr ds : Addr) (rs : List Row), vs = [v, .ref dr, .ref ds] ∧ TreeAt H v t ∧ RB rs t ∧ t.size ≤ 100 ∧ RankD H dr rs ∧ SideD H ds rs ∧ ∀ H', Same H H' → Q (.bl true) H'
theorem scBinds : FnScope nBinds psBinds (defScope sBinds) := ⟨rfl, rfl, rfl, by decide +kernel, rfl, by decide +kernel, by decide +kernel⟩
structure WBinds (rs : List Row) (v : V) (dr ds : Addr) (H : Hp) (lt : Addr) (m : Nat) (σ : L2.St) (H' : Hp) : Prop where
  ex : ∃ (p1 p2 p3 p4 p5 p6 : Option V) (us : List V) (ts : List Rek), σ = [some v, some (.ref dr), some (.ref ds), some (.ref lt), p1, p2, p3, p4, p5, p6] ∧ Same H H' ∧ H' lt = some (.lst us) ∧ Paired (TreeAt H') us ts ∧ (∀ t ∈ ts, RB rs t) ∧ m = bwt ts ∧ bwt ts ≤ 201
theorem ok_binds {f g : Addr} {fd gd : FuncData} (F : Fun K "_law_binds" "_law_binds" sBinds f fd) (GW : FnOk P w K mg base CX0 1 g gd psWhole spWhole) (bW : Binds K gd psWhole []) (kW : PySem.W.keepIn K (.ref g) = true) (mW : mg "_law_whole" = some (.ref g))
    (kt : Kits K) (mi : mg "isinstance" = none) (mt : mg "tuple" = none) (ms : mg "str" = none) (ml : mg "len" = none) : FnOk P w K mg base CX0 2 f fd psBinds spBinds := by
  refine F.ok scBinds (fun vs H Q E h => ?_) (fun cdv A outer s H vs Q E hr h => ?_)
  · obtain ⟨v, t, dr, ds, rs, rfl, _⟩ := h; rfl
  obtain ⟨v, t, dr, ds, rs, rfl, ht, hrb, hsz, hR, hD, q⟩ := h
  have nd := scBinds.nd
  have hu := units_of hr
  have hu2 := hu_of hr
  refine ⟨_, pss_cons (ps_set (i := 3) nd rfl (Or.inl rfl) (pe_lst (pa_cons (pv 0) pa_nil)))
    (pss_cons (ps_while PassesOwn.never (pt_cmpR (op_neNil hu) (pv 3) (pe_lst pa_nil) (nomark _))
      (pss_cons (ps_set (i := 4) nd rfl (Or.inl rfl) (pe_bm0 PySem.F.plainAttrs_list PySem.F.slot_list_pop PySem.F.type_list_pop mt_pop (pv 3)))
      (pss_one (ps_if (pt_val (pe_callB call_isi rfl mi rfl (pa_cons (pv 4) (pa_cons (pe_bltn (v := .ty "tuple") rfl mt rfl rfl) pa_nil))))
        (pss_cons (ps_if (PW.pt (pw_or (pt_cmpR op_ne (pe_callB call_len_seq rfl ml PySem.boot_len (pa_cons (pv 4) pa_nil)) pe_int (nomark _)) (pw_or (pt_not (pt_val (pe_callB call_isi rfl mi rfl (pa_cons (pe_ix ix_tup (pv 4) pe_int (fun _ _ => rfl)) (pa_cons (pe_bltn (v := .ty "str") rfl ms rfl rfl) pa_nil))))) (pw_or1 (pt_cmp (pc_dnotin hu2 (pe_ix ix_tup (pv 4) pe_int (fun _ _ => rfl)) (pv 1))))))) (pss_one (ps_ret pe_bl)) pss_nil)
        (pss_one (ps_for PassesOwn.never rfl (pi_list (pe_lst (pa_cons pe_int (pa_cons pe_int pa_nil)))) (pg_name (i := 5) nd rfl (Or.inl rfl))
          (pss_cons (ps_set (i := 6) nd rfl (Or.inl rfl) (pe_ix ix_tup (pv 4) (pv 5) (fun _ _ => rfl)))
          (pss_cons (ps_expr (pe_bm PySem.F.plainAttrs_list PySem.F.slot_list_append PySem.F.type_list_append mt_append (pv 3) (pa_cons (pv 6) pa_nil)))
          (pss_one (ps_if (PW.pt (pw_and (pt_val (pe_callB call_isi rfl mi rfl (pa_cons (pv 6) (pa_cons (pe_bltn (v := .ty "tuple") rfl mt rfl rfl) pa_nil)))) (pw_and1 (pt_cmpR op_eq (pe_callB call_len_seq rfl ml PySem.boot_len (pa_cons (pv 6) pa_nil)) pe_int (nomark _)))))
            (pss_cons (ps_set (i := 7) nd rfl (Or.inl rfl) (pe_dget2 hu2 (pv 1) (pe_ix ix_tup (pv 6) pe_int (fun _ _ => rfl)) pe_non ⟨rfl, rfl, rfl, rfl⟩))
            (pss_cons (ps_set (i := 8) nd rfl (Or.inl rfl) (pe_dget hu2 (pv 1) (pe_ix ix_tup (pv 4) pe_int (fun _ _ => rfl)) (fun _ _ => rfl)))
            (pss_cons (ps_set (i := 9) nd rfl (Or.inl rfl) (pe_ix ix_list (pe_lst (pa_cons pe_str (pa_cons pe_str (pa_cons pe_str pa_nil)))) (pv 5) (fun _ _ => rfl)))
            (pss_cons (ps_if (PW.pt (pw_or (pt_cmpR op_isN (pv 7) pe_non (nomark _)) (pw_or1 (pt_cmpR op_lt (pv 7) (pv 8) (nomark _))))) (pss_one (ps_ret pe_bl)) pss_nil)
            (pss_one (ps_if (PW.pt (pw_and (pt_cmpR op_eq (pv 7) (pv 8) (nomark _)) (pw_and1 (pt_cmpR op_ne (pe_dget hu2 (pv 2) (pe_ix ix_tup (pv 4) pe_int (fun _ _ => rfl)) (fun _ _ => rfl)) (pv 9) (nomark _))))) (pss_one (ps_ret pe_bl)) pss_nil))))))
            pss_nil)))))))
        (pss_one (ps_if (PW.pt (pw_and (pt_not (pt_val (pe_callB call_isi rfl mi rfl (pa_cons (pv 4) (pa_cons (pe_bltn (v := .ty "str") rfl ms rfl rfl) pa_nil))))) (pw_and1 (pt_not (pt_val (pe_call GW hr rfl mW kW bW .nil pass0 (pa_cons (pv 4) pa_nil))))))) (pss_one (ps_ret pe_bl)) pss_nil))))))
    (pss_one (ps_ret pe_bl))), ?_⟩
  refine ⟨_, rfl, (by show 1 ≤ sizeLine; decide), fun lt hlt => ?_⟩
  refine ⟨WBinds rs v dr ds H lt, ⟨_, none, none, none, none, none, none, [v], [t], rfl, Same.new hlt _, upd_same, .cons (ht.same (Same.new hlt _)) .nil, fun t' h' => ?_, rfl, ?_⟩, ?_⟩
  · have e : t' = t := by simpa using h'
    rw [e]; exact hrb
  · show 2 * t.size + 1 + 0 ≤ 201; omega
  rintro m σ H' ⟨p1, p2, p3, p4, p5, p6, us, ts, rfl, e1, h1, hp, hok, rfl, hw⟩
  refine ⟨_, rfl, (by show 0 ≤ sizeLine; decide), fun n0 hn0 => ?_⟩
  have hln : lt ≠ n0 := ne_of_none h1 hn0
  refine ⟨_, _, _, rfl, rfl, (by rw [upd_ne hln]; exact h1), upd_same, _, rfl, ?_⟩
  have e2 : Same H (upd H' n0 (.lst [])) := e1.put (e1.free hn0) _
  have h2 : upd H' n0 (.lst []) lt = some (.lst us) := by rw [upd_ne hln]; exact h1
  have hp2 := Pr.mono (fun v p (h : TreeAt H' v p) => h.same (Same.new hn0 (.lst []))) hp
  generalize upd H' n0 (.lst []) = H2 at e2 h2 hp2 ⊢
  clear e1 h1 hp hn0 hln
  by_cases hus : us = []
  · subst hus
    exact iteF (q H2 e2)
  · obtain ⟨us', vp, rfl⟩ := snoc_of hus
    obtain ⟨ts', u, rfl, hq1, hq2⟩ := Pr.unsnoc hp2
    have et : (!(us' ++ [vp]).isEmpty) = true := by cases us' <;> rfl
    rw [et]
    refine iteT ?_
    refine ⟨fun σ' H2 => ∃ m', m' < bwt (ts' ++ [u]) ∧ WBinds rs v dr ds H lt m' σ' H2, fun _ _ z => z, ?_⟩
    refine ⟨_, rfl, .inl ⟨rfl, _, SqL.of h2⟩, lt, _, vp, rfl, rfl, h2, last_snoc _ _, ?_⟩
    rw [List.dropLast_concat]
    have kp : ∀ b xs, H2 b = some (.tup xs) → upd H2 lt (.lst us') b = some (.tup xs) := fun b xs z => by rw [upd_ne (fun y => by rw [y, h2] at z; cases z)]; exact z
    have e3 : Same H (upd H2 lt (.lst us')) := e2.put hlt _
    have h3 : upd H2 lt (.lst us') lt = some (.lst us') := upd_same
    have hp3 := Pr.mono (fun v p (h : TreeAt H2 v p) => TreeAt.keep kp h) hq1
    have hv3 := TreeAt.keep kp hq2
    generalize upd H2 lt (.lst us') = H3 at e3 h3 hp3 hv3 ⊢
    rw [bwt_snoc] at hw ⊢
    have hlen := bwt_len ts'
    have lenU := Pr.length hp3
    have hru : RB rs u := hok u (by simp)
    have hok' : ∀ t ∈ ts', RB rs t := fun t ht => hok t (List.mem_append_left _ ht)
    have nxt : ∀ q1 q2 q3 q4 q5 q6 : Option V, ∃ m', m' < bwt ts' + (2 * u.size + 1) ∧ WBinds rs v dr ds H lt m' [some v, some (.ref dr), some (.ref ds), some (.ref lt), q1, q2, q3, q4, q5, q6] H3 := fun q1 q2 q3 q4 q5 q6 =>
      ⟨bwt ts', by omega, _, _, _, _, _, _, us', ts', rfl, e3, h3, hp3, hok', rfl, by omega⟩
    have hty := TreeAt.tyOf (K := K) hv3
    refine ⟨_, rfl, _, _, _, _, rfl, hty, kt.tup u, _, rfl, ?_⟩
    cases u with
    | num n =>
      refine iteF ⟨_, rfl, _, _, _, _, rfl, hty, kt.is, _, rfl, iteT ?_⟩
      exact ⟨_, rfl, _, _, rfl, hv3, _, rfl, iteF (nxt _ _ _ _ _ _)⟩
    | name n =>
      exact iteF ⟨_, rfl, _, _, _, _, rfl, hty, kt.ss, _, rfl, iteF (iteF (nxt _ _ _ _ _ _))⟩
    | node sg l r =>
      obtain ⟨a, vl, vr, rfl, ha, hl, hrr⟩ := hv3
      obtain ⟨hs, rl, rr, bl, br⟩ := hru
      have hR3 := hR.same e3
      refine iteT ⟨_, rfl, a, _, rfl, .inr (SqT.of ha), rfl, _, rfl, iteF ?_⟩
      refine ⟨_, rfl, a, _, 0, .str sg, rfl, rfl, SqT.of ha, rfl, _, _, _, _, rfl, .str _, kt.ss, _, rfl, iteF ?_⟩
      refine ⟨_, rfl, a, _, 0, .str sg, rfl, rfl, SqT.of ha, rfl, _, rfl, dr, _, rfl, hR3.get hs, _, rfl, iteF ?_⟩
      refine ⟨(by show 2 ≤ sizeLine; decide), fun fl hfl => ?_⟩
      have nfl : lt ≠ fl := ne_of_none h3 hfl
      have nfa : a ≠ fl := ne_of_none ha hfl
      refine ⟨fl, rfl, ⟨_, SqL.of upd_same⟩, for_list (K := K) (a := fl) (xs := [V.int 1, V.int 2]) (fun i σ H4 => ∃ (p2 p3 p4 p5 p6 : Option V), σ = [some v, some (.ref dr), some (.ref ds), some (.ref lt), some (.ref a), p2, p3, p4, p5, p6] ∧ Same H H4 ∧ H4 fl = some (.lst [V.int 1, V.int 2]) ∧ H4 lt = some (.lst (us' ++ [vl, vr].take i)) ∧ ∀ b xs, H3 b = some (.tup xs) → H4 b = some (.tup xs)) ?_ ?_ ?_ ?_⟩
      · refine ⟨_, _, _, _, _, rfl, e3.put (e3.free hfl) _, upd_same, by rw [upd_ne nfl, h3]; simp, fun b xs z => by rw [upd_ne (ne_of_none z hfl)]; exact z⟩
      · rintro i σ H4 _ ⟨_, _, _, _, _, _, _, h, _⟩
        exact SqL.of h
      · rintro i x σ H4 hi ⟨q2, q3, q4, q5, q6, rfl, e4, h4f, h4t, k4⟩
        -- the part at its place
        have key : ∃ (pl : Str) (vc : V) (c : Rek) (z : Int), x = .int z ∧ atI [V.str sg, vl, vr] z = some vc ∧ atI [V.str "", V.str "left", V.str "right"] z = some (.str pl) ∧ TreeAt H3 vc c ∧ RB rs c ∧ bare rs sg pl c.top ∧ us' ++ [vl, vr].take i ++ [vc] = us' ++ [vl, vr].take (i + 1) ∧ i ≤ 1 := by
          match i, hi with
          | 0, hi => cases hi; exact ⟨"left", vl, l, 1, rfl, rfl, rfl, hl, rl, bl, by simp, by decide⟩
          | 1, hi => cases hi; exact ⟨"right", vr, r, 2, rfl, rfl, rfl, hrr, rr, br, by simp, by decide⟩
          | i + 2, hi => simp at hi
        obtain ⟨pl, vc, c, z, rfl, hz1, hz2, hc, hrc, hbc, heq, hi1⟩ := key
        have ha4 := k4 _ _ ha
        have ltl : (us' ++ [vl, vr].take i).length ≤ 300 := by
          rw [List.length_append, List.length_take]
          omega
        refine ⟨_, rfl, _, rfl, a, _, z, vc, rfl, rfl, SqT.of ha4, hz1, _, rfl, .inl ⟨rfl, _, SqL.of h4t⟩, _, rfl, lt, _, _, rfl, rfl, h4t, small1000 (by omega), ?_⟩
        rw [heq]
        have nlf : fl ≠ lt := Ne.symm nfl
        have k5 : ∀ b xs, H3 b = some (.tup xs) → upd H4 lt (.lst (us' ++ [vl, vr].take (i + 1))) b = some (.tup xs) := fun b xs y => by
          have y' := k4 _ _ y
          rw [upd_ne (fun x => by rw [x, h4t] at y'; cases y')]; exact y'
        have e5 : Same H (upd H4 lt (.lst (us' ++ [vl, vr].take (i + 1)))) := e4.put hlt _
        have h5t : upd H4 lt (.lst (us' ++ [vl, vr].take (i + 1))) lt = some (.lst (us' ++ [vl, vr].take (i + 1))) := upd_same
        have h5f : upd H4 lt (.lst (us' ++ [vl, vr].take (i + 1))) fl = some (.lst [V.int 1, V.int 2]) := by rw [upd_ne nlf]; exact h4f
        generalize upd H4 lt (.lst (us' ++ [vl, vr].take (i + 1))) = H5 at k5 e5 h5t h5f ⊢
        have hc5 := TreeAt.keep k5 hc
        have hty5 := TreeAt.tyOf (K := K) hc5
        refine ⟨_, rfl, _, _, _, _, rfl, hty5, kt.tup c, _, rfl, ?_⟩
        cases c with
        | num n => exact iteF (iteF ⟨_, _, _, _, _, rfl, e5, h5f, h5t, k5⟩)
        | name n => exact iteF (iteF ⟨_, _, _, _, _, rfl, e5, h5f, h5t, k5⟩)
        | node sg2 l2 r2 =>
          obtain ⟨a2, vl2, vr2, rfl, ha2, _, _⟩ := hc5
          have hs2 : sg2 ∈ signsOf rs := hrc.1
          have ha5 := k5 _ _ ha
          have hR5 := hR.same e5
          refine iteT ⟨_, rfl, a2, _, rfl, .inr (SqT.of ha2), rfl, _, rfl, iteT ?_⟩
          refine ⟨_, rfl, dr, rfl, hR5.isD, _, rfl, a2, _, 0, .str sg2, rfl, rfl, SqT.of ha2, rfl, _, hR5.get hs2, ?_⟩
          refine ⟨_, rfl, _, rfl, a, _, 0, .str sg, rfl, rfl, SqT.of ha5, rfl, dr, _, rfl, hR5.get hs, ?_⟩
          refine ⟨(by show 3 ≤ sizeLine; decide), fun n3 hn3 => ?_⟩
          refine ⟨_, rfl, n3, _, z, _, rfl, rfl, SqL.of upd_same, hz2, ?_⟩
          have e6 : Same H (upd H5 n3 (.lst [.str "", .str "left", .str "right"])) := e5.put (e5.free hn3) _
          have s56 := Same.new hn3 (.lst [.str "", .str "left", .str "right"])
          have h6t := s56 _ _ h5t
          have h6f := s56 _ _ h5f
          have ha6 := s56 _ _ ha5
          have k6 : ∀ b xs, H3 b = some (.tup xs) → upd H5 n3 (.lst [.str "", .str "left", .str "right"]) b = some (.tup xs) := fun b xs y => s56 _ _ (k5 _ _ y)
          generalize upd H5 n3 (.lst [.str "", .str "left", .str "right"]) = H6 at e6 h6t h6f ha6 k6 ⊢
          have hD6 := hD.same e6
          refine ⟨_, rfl, rfl, _, rfl, iteF ?_⟩
          have hb : rankOf rs sg < rankOf rs sg2 ∨ (rankOf rs sg = rankOf rs sg2 ∧ sideOf rs sg = pl) := hbc
          refine ⟨_, rfl, _, rfl, _, _, rfl, rfl, _, rfl, ite2 (fun c => ?_) (fun c => ?_)⟩
          · have c' : rankOf rs sg2 < rankOf rs sg := of_decide_eq_true c
            omega
          · refine ⟨_, rfl, _, rfl, rfl, _, rfl, ite2 (fun c3 => ?_) (fun c3 => ?_)⟩
            · have c3' : rankOf rs sg2 = rankOf rs sg := by
                have := of_decide_eq_true c3
                injection this
              have hside : sideOf rs sg = pl := by
                rcases hb with hb | hb
                · omega
                · exact hb.2
              refine ⟨_, rfl, _, rfl, a, _, 0, .str sg, rfl, rfl, SqT.of ha6, rfl, ds, _, rfl, hD6.get hs, _, rfl, rfl, _, rfl, ?_⟩
              rw [hside]
              exact iteNS rfl ⟨_, _, _, _, _, rfl, e6, h6f, h6t, k6⟩
            · exact iteF ⟨_, _, _, _, _, rfl, e6, h6f, h6t, k6⟩
      · rintro σ H4 ⟨q2, q3, q4, q5, q6, rfl, e4, h4f, h4t, k4⟩
        have hw' : bwt ts' + (2 * (l.size + r.size + 1) + 1) ≤ 201 := hw
        refine ⟨bwt (ts' ++ [l] ++ [r]), ?_, _, _, _, _, _, _, us' ++ [vl] ++ [vr], ts' ++ [l] ++ [r], rfl, e4, ?_, Pr.append (Pr.append (Pr.mono (fun v p (h : TreeAt H3 v p) => TreeAt.keep k4 h) hp3) (.cons (TreeAt.keep k4 hl) .nil)) (.cons (TreeAt.keep k4 hrr) .nil), fun t ht => ?_, rfl, ?_⟩
        · rw [bwt_snoc, bwt_snoc]
          show _ < bwt ts' + (2 * (l.size + r.size + 1) + 1)
          omega
        · rw [h4t]; simp
        · rcases List.mem_append.mp ht with z | z
          · rcases List.mem_append.mp z with y | y
            · exact hok' t y
            · have e : t = l := by simpa using y
              rw [e]; exact rl
          · have e : t = r := by simpa using z
            rw [e]; exact rr
        · rw [bwt_snoc, bwt_snoc]; omega
end
end K05

namespace K05
open PySem L2 Fb PyProof.Rows
seal L2.PE L2.PT L2.PW L2.PA L2.PS L2.PSs L2.PC L2.PG L2.PGs L2.PI L2.PO Fb.PJ
noncomputable abbrev sBud : Stmt := top 28
section
variable {P : Program} {w : World} {K : PySem.W.Frag} {mg : Str → Option Value} {base : Heap}
/-! ### _law_budded -/
noncomputable abbrev psBud : List Str := ["_law_seed"]
noncomputable abbrev nBud : List Str := ["_law_seed", "_law_large", "_law_name", "_law_k"]
noncomputable def spBud : Sp := fun vs H Q _ => ∃ seed : Int, vs = [.int seed] ∧ ∀ (v : V) (t : Rek) (H' : Hp), LeafOk t → TreeAt H' v t → Same H H' → Q v H'
theorem scBud : FnScope nBud psBud (defScope sBud) := ⟨rfl, rfl, rfl, by decide +kernel, rfl, by decide +kernel, by decide +kernel⟩
theorem ok_bud {f g : Addr} {fd gd : FuncData} (F : Fun K "_law_budded" "_law_budded" sBud f fd) (GD : FnOk P w K mg base CX0 1 g gd psDraw spDraw) (bD : Binds K gd psDraw []) (kD : PySem.W.keepIn K (.ref g) = true) (mD : mg "_law_draw" = some (.ref g)) (mr : mg "range" = none) (mi : mg "int" = none) :
    FnOk P w K mg base CX0 2 f fd psBud spBud := by
  refine F.ok scBud (fun vs H Q E h => ?_) (fun cdv A outer s H vs Q E hr h => ?_)
  · obtain ⟨seed, rfl, _⟩ := h; rfl
  obtain ⟨seed, rfl, q⟩ := h
  have nd := scBud.nd
  refine ⟨_, pss_cons (ps_if (pt_cmpR op_eq (pe_op op_mod (pv 0) pe_int) pe_int (nomark _))
      (pss_cons (ps_set (i := 1) nd rfl (Or.inl rfl) (pe_lst (pa_cons (pe_op op_mod (pe_op op_mul (pv 0) pe_int) (pe_op op_pow pe_int pe_int)) (pa_cons (pe_op op_add (pe_op op_pow pe_int pe_int) (pe_op op_mod (pv 0) pe_int)) (pa_cons (pe_op op_mod (pe_op op_mul (pv 0) pe_int) (pe_op op_pow pe_int pe_int)) pa_nil)))))
      (pss_cons (ps_set (i := 1) nd rfl (Or.inl rfl) (pe_op op_cat (pv 1) (pe_lst (pa_cons (pe_op op_add (pe_op op_pow pe_int pe_int) (pe_op op_mod (pv 0) (pe_op op_pow pe_int pe_int))) (pa_cons (pe_op op_add (pe_op op_pow pe_int pe_int) (pe_op op_mod (pv 0) (pe_op op_pow pe_int pe_int))) pa_nil)))))
      (pss_cons (ps_set (i := 1) nd rfl (Or.inl rfl) (pe_ix ix_list (pv 1) (pe_op op_mod (pe_op op_fdiv (pv 0) pe_int) pe_int) (fun _ _ => rfl)))
      (pss_one (ps_ret (pe_ix ix_list (pe_lst (pa_cons (pe_op op_mod (pe_op op_fdiv (pv 0) pe_int) pe_int) (pa_cons (pv 1) pa_nil))) (pe_callTy call_int1 rfl mi rfl (pa_cons (pe_cmpR op_eq (pe_op op_mod (pv 0) pe_int) pe_int (nomark _)) pa_nil)) (fun _ _ => rfl)))))))
      pss_nil)
    (pss_cons (ps_set (i := 2) nd rfl (Or.inl rfl) pe_str)
    (pss_cons (ps_for PassesOwn.never rfl (pi_range1 rfl mr (pa_cons (pe_ix ix_list (pe_lst (pa_cons pe_int (pa_cons pe_int (pa_cons pe_int (pa_cons pe_int (pa_cons pe_int (pa_cons pe_int (pa_cons pe_int (pa_cons pe_int (pa_cons pe_int (pa_cons (pe_op op_add pe_int (pe_op op_mod (pe_op op_fdiv (pv 0) pe_int) pe_int)) pa_nil))))))))))) (pe_op op_mod (pe_op op_fdiv (pv 0) pe_int) pe_int) (fun _ _ => rfl)) pa_nil)) (pg_name (i := 3) nd rfl (Or.inl rfl))
      (pss_one (ps_set (i := 2) nd rfl (Or.inl rfl) (pe_op op_add_str (pv 2) (pe_ix ix_str pe_str (pe_call GD hr rfl mD kD bD .nil pass0 (pa_cons (pe_op op_add (pv 0) (pe_op op_mul pe_int (pv 3))) (pa_cons pe_int (pa_cons pe_int pa_nil)))) (fun _ _ => rfl))))))
    (pss_one (ps_ret (pv 2))))), ?_⟩
  refine ⟨_, rfl, _, _, rfl, rfl, (by show (0 : Int) < 3; decide), rfl, _, rfl, ?_⟩
  refine ite2 (fun c => ?_) (fun c => ?_)
  · -- a number
    refine ⟨_, rfl, _, _, rfl, rfl, .inr ⟨by decide, by decide⟩, _, _, rfl, rfl, ⟨by decide, by decide, by decide⟩, _, _, rfl, rfl, p9, _, _, rfl, rfl, ⟨by decide, by decide, by decide⟩, _, rfl, _, _, rfl, rfl, (by show (0 : Int) < 1000; decide), _, _, rfl, rfl,
      _, rfl, _, _, rfl, rfl, .inr ⟨by decide, by decide⟩, _, _, rfl, rfl, ⟨by decide, by decide, by decide⟩, _, _, rfl, rfl, p60, (by show 3 ≤ sizeLine; decide), fun p1 hp1 => ?_⟩
    refine ⟨_, rfl, _, _, rfl, rfl, ⟨by decide, by decide, by decide⟩, _, rfl, _, _, rfl, rfl, ⟨by decide, by decide, by decide⟩, _, _, rfl, rfl, p13, _, _, rfl, rfl, _, _, rfl, rfl, ⟨by decide, by decide, by decide⟩, _, rfl, _, _, rfl, rfl, ⟨by decide, by decide, by decide⟩, _, _, rfl, rfl, p39, _, _, rfl, rfl, (by show 2 ≤ sizeLine; decide), fun p2 hp2 => ?_⟩
    obtain ⟨hp21, hp20⟩ := free_upd hp2
    refine ⟨p1, p2, _, _, rfl, rfl, (by rw [upd_ne (Ne.symm hp21), upd_same]), upd_same, (by show 5 ≤ sizeLine; decide), fun p3 hp3 => ?_⟩
    obtain ⟨hp32, hp3'⟩ := free_upd hp3
    obtain ⟨hp31, hp30⟩ := free_upd hp3'
    have h5 : 0 ≤ seed / 9 % 5 ∧ seed / 9 % 5 < 5 := ⟨Int.emod_nonneg _ (by decide), Int.emod_lt_of_pos _ (by decide)⟩
    refine ⟨_, rfl, _, rfl, _, _, rfl, rfl, ⟨by decide, by decide⟩, _, _, rfl, rfl, (by show (0 : Int) < 5; decide), _, _, _, _, rfl, rfl, SqL.of upd_same, atI_getD V.int (larges seed) 0 h5.1 h5.2, ?_⟩
    refine ⟨_, rfl, _, _, rfl, rfl, ⟨by decide, by decide⟩, _, _, rfl, rfl, (by show (0 : Int) < 200; decide), _, rfl, (by show 2 ≤ sizeLine; decide), fun p4 hp4 => ?_⟩
    obtain ⟨hp43, hp4'⟩ := free_upd hp4
    obtain ⟨hp42, hp4''⟩ := free_upd hp4'
    obtain ⟨hp41, hp40⟩ := free_upd hp4''
    have big := larges_ok seed h5
    refine ⟨_, rfl, _, _, rfl, rfl, (by show (0 : Int) < 9; decide), rfl, .inr ⟨_, rfl, _, _, _, (if decide (V.int (seed % 9) = V.int 6) = true then .int ((larges seed).getD (seed / 9 % 5).toNat 0) else .int (seed / 9 % 200)), rfl, rfl, SqL.of upd_same, ?_, ?_⟩⟩
    · by_cases z : decide (V.int (seed % 9) = V.int 6) = true
      · rw [if_pos z, z]; rfl
      · rw [if_neg z, Bool.eq_false_iff.mpr z]; rfl
    · by_cases z : decide (V.int (seed % 9) = V.int 6) = true
      · rw [if_pos z]
        exact q _ (.num ((larges seed).getD (seed / 9 % 5).toNat 0).toNat) _ big.2 (by show V.int _ = V.int _; rw [Int.toNat_of_nonneg big.1]) ((((Same.new hp1 _).put hp20 _).put hp30 _).put hp40 _)
      · rw [if_neg z]
        have h0 : 0 ≤ seed / 9 % 200 := Int.emod_nonneg _ (by decide)
        have h1 : seed / 9 % 200 < 200 := Int.emod_lt_of_pos _ (by decide)
        exact q _ (.num (seed / 9 % 200).toNat) _ (leaf_small (by omega)) (by show V.int _ = V.int _; rw [Int.toNat_of_nonneg h0]) ((((Same.new hp1 _).put hp20 _).put hp30 _).put hp40 _)
  · -- a name
    have hc10 : 0 ≤ seed / 3 % 10 ∧ seed / 3 % 10 < 10 := ⟨Int.emod_nonneg _ (by decide), Int.emod_lt_of_pos _ (by decide)⟩
    refine ⟨_, rfl, _, _, rfl, rfl, ⟨by decide, by decide⟩, _, _, rfl, rfl, (by show (0 : Int) < 40; decide), _, _, rfl, rfl, (by show 10 ≤ sizeLine; decide), fun p1 hp1 => ?_⟩
    have hlen := lens_ok seed hc10
    refine ⟨_, rfl, _, _, rfl, rfl, ⟨by decide, by decide⟩, _, _, rfl, rfl, (by show (0 : Int) < 10; decide), _, _, _, _, rfl, rfl, SqL.of upd_same, atI_getD V.int (lensL seed) 0 hc10.1 hc10.2, _, rfl, by omega, by omega, for_range (lo := 0) (n := ((lensL seed).getD (seed / 3 % 10).toNat 0).toNat) (fun i σ H2 => ∃ (x : Str) (kv : Option V), σ = [some (.int seed), none, some (.str x), kv] ∧ H2 = upd H p1 (.lst ((lensL seed).map V.int)) ∧ x.length = i ∧ Letters x) ?_ ?_ ?_⟩
    · exact ⟨"", none, rfl, rfl, rfl, fun c hc => by cases hc⟩
    · rintro i σ H2 hi ⟨x, kv, rfl, rfl, hx, hlx⟩
      have d0 := drawI_nonneg (n := seed + 7919 * ((0 : Int) + (i : Int))) (p := 1009) (m := 26) (by omega)
      have d1 := drawI_lt (n := seed + 7919 * ((0 : Int) + (i : Int))) (p := 1009) (m := 26) (by omega)
      obtain ⟨c, hc1, hc2⟩ := letterAt _ d0 d1
      refine ⟨_, rfl, _, rfl, _, rfl, _, _, rfl, rfl, .inl ⟨by decide, by decide⟩, _, _, rfl, rfl, _, _, _, rfl, by decide, by decide, _, _, _, rfl, rfl, (by decide +kernel), hc1, _, _, rfl, rfl, ?_, ?_⟩
      · rw [hx]
        show i + 1 ≤ sizeLine
        exact Nat.le_of_lt (small1000 (by omega))
      · refine ⟨_, _, rfl, rfl, ?_, letters_snoc hlx hc2⟩
        rw [strLen_append, hx]; rfl
    · rintro σ H2 ⟨x, kv, rfl, rfl, hx, hlx⟩
      exact ⟨_, rfl, q _ (.name x) _ ⟨by rw [hx]; omega, by rw [hx]; omega, hlx⟩ rfl (Same.new hp1 _)⟩
end
end K05

namespace K05
open PySem L2 Fb PyProof.Rows
seal L2.PE L2.PT L2.PW L2.PA L2.PS L2.PSs L2.PC L2.PG L2.PGs L2.PI L2.PO Fb.PJ
noncomputable abbrev sCheck : Stmt := top 9
noncomputable abbrev sWords : Stmt := top 10
noncomputable abbrev sTwice : Stmt := top 11
noncomputable abbrev sOne : Stmt := top 12
noncomputable def signsPy : List Str := ["+", "-", "*", "/", "^", "<", ">", "=", "&", "|"]
theorem signsPy_iff (x : Str) : x ∈ signsPy ↔ x ∈ signMenu := by
  have p : signsPy.Perm signMenu := by decide +kernel
  exact p.mem_iff
/-- what point 3 asks, thing by thing -/
noncomputable def Words (rs : List Row) : Prop := ∀ r ∈ rs, r.1 ∈ signMenu ∧ r.2.2 ∈ sideMenu
noncomputable def Once (rs : List Row) : Prop := (rs.map (·.1)).Nodup
noncomputable def One (rs : List Row) : Prop := ∀ r ∈ rs, ∀ q ∈ rs, r.2.1 = q.2.1 → r.2.2 = q.2.2
theorem fine_iff {rs : List Row} : Fine rs ↔ Words rs ∧ Once rs ∧ One rs :=
  ⟨fun f => ⟨fun r hr => ⟨f.sign r hr, f.side r hr⟩, f.once, f.one⟩, fun ⟨a, b, c⟩ => ⟨fun r hr => (a r hr).1, fun r hr => (a r hr).2, b, c⟩⟩
/-- a short plain text -/
noncomputable def ShortT (x : Str) : Prop := x.length ≤ 20 ∧ ∀ c ∈ x.cps.toList, c < 16 ^ 8
theorem ShortT.repr {x : Str} (h : ShortT x) : (reprText x).length ≤ 202 := Nat.le_trans (PySem.StrLaws.reprText_len x h.2) (by have := h.1; omega)
noncomputable def ShortR (rs : List Row) : Prop := ∀ r ∈ rs, ShortT r.1 ∧ ShortT r.2.2
/-- what the checks lean on of the text -/
structure Txt (K : PySem.W.Frag) (mg : Str → Option Value) (aG aD CB CN CT CM CL : Addr) : Prop where
  sg : mg "SIGNS" = some (.ref aG)
  gq : ∀ H : Hp, SqT K H aG (signsPy.map V.str)
  sd : mg "SIDES" = some (.ref aD)
  dq : ∀ H : Hp, SqT K H aD (sideMenu.map V.str)
  eB : mg "BracketError" = some (.ref CB)
  eN : ExcCls K mg "NoTable" CN
  eT : ExcCls K mg "TwiceThere" CT
  eM : ExcCls K mg "MixedSides" CM
  eL : ExcCls K mg "NoLine" CL
theorem inV_str (x : Str) (xs : List Str) : inV (.str x) (xs.map V.str) = decide (x ∈ xs) := by
  unfold inV
  rw [List.any_map]
  by_cases h : x ∈ xs
  · rw [decide_eq_true h]
    exact List.any_eq_true.mpr ⟨x, h, by show (x == x) = true; simp⟩
  · rw [decide_eq_false h]
    refine Bool.eq_false_iff.mpr fun q => ?_
    obtain ⟨y, hy, e⟩ := List.any_eq_true.mp q
    have e' : (y == x) = true := e
    exact h (by rw [← beq_iff_eq.mp e']; exact hy)
theorem all_flat (xs : List Str) : (xs.map V.str).all flatV = true := by
  rw [List.all_map]
  exact List.all_eq_true.mpr fun _ _ => rfl
theorem take_succ_mem {α : Type} {xs : List α} {i : Nat} {x y : α} (h : xs[i]? = some x) (hy : y ∈ xs.take (i + 1)) : y ∈ xs.take i ∨ y = x := by
  rw [List.take_add_one, h] at hy
  rcases List.mem_append.mp hy with q | q
  · exact .inl q
  · simp at q; exact .inr q
theorem row_get {H : Hp} {as : List Addr} {rs : List Row} (h : RowsAt H as rs) {i : Nat} {x : V} (e : (as.map V.ref)[i]? = some x) : ∃ a r, x = .ref a ∧ rs[i]? = some r ∧ RowAt H a r := by
  rw [List.getElem?_map] at e
  cases q : as[i]? with
  | none => rw [q] at e; cases e
  | some a =>
    rw [q] at e
    have hl := Pr.length h
    have hi : i < as.length := (List.getElem?_eq_some_iff.mp q).1
    have hi2 : i < rs.length := by omega
    obtain ⟨a', h1, h2⟩ := Pr.get h (List.getElem?_eq_getElem hi2)
    rw [q] at h1
    cases h1
    exact ⟨a, rs[i], (Option.some.inj e).symm, List.getElem?_eq_getElem hi2, h2⟩
section
variable {P : Program} {w : World} {K : PySem.W.Frag} {mg : Str → Option Value} {base : Heap} {aG aD CB CN CT CM CL : Addr}
theorem joined_ok {x y : Str} (hx : x.length ≤ 202) (hy : y.length ≤ 202) : (x ++ y).length ≤ sizeLine := by
  rw [strLen_append]
  exact Nat.le_of_lt (small1000 (by omega))
noncomputable abbrev nWords : List Str := ["table", "sign", "rank", "side"]
noncomputable def spWords (CN : Addr) : Sp := fun vs H Q E => ∃ (l : Addr) (rs : List Row), vs = [.ref l] ∧ TabAt H l rs ∧ ShortR rs ∧ (Words rs → Q .non H) ∧ (¬ Words rs → E (.ref CN) none H)
theorem scWords : FnScope nWords ["table"] (defScope sWords) := ⟨rfl, rfl, rfl, by decide +kernel, rfl, by decide +kernel, by decide +kernel⟩
theorem ok_words {f : Addr} {fd : FuncData} (F : Fun K "check_words" "check_words" sWords f fd) (T : Txt K mg aG aD CB CN CT CM CL) : FnOk P w K mg base (CX1 P w) 1 f fd ["table"] (spWords CN) := by
  refine Fun.okX F scWords (fun vs H Q E h => ?_) (fun cdv A outer s H vs Q E hr h => ?_)
  · obtain ⟨l, rs, rfl, _⟩ := h; rfl
  obtain ⟨l, rs, rfl, ⟨as, t1, t2⟩, hsh, q1, q2⟩ := h
  have nd := scWords.nd
  have hm : Mades (cxOf (CX1 P w) P w K mg base nWords "check_words" (defScope sWords) f cdv A outer s H E) CN (fun _ => E) := fun pins σ H s e h' vs I hx hE => passes_made I hx hE
  refine ⟨_, pss_one (ps_for PassesOwn.leaving rfl (pi_list (pv 0)) (pg_tup rfl (pgs_cons (pg_name (i := 1) nd rfl (Or.inl rfl)) (pgs_cons (pg_name (i := 2) nd rfl (Or.inl rfl)) (pgs_cons (pg_name (i := 3) nd rfl (Or.inl rfl)) pgs_nil))))
    (pss_cons (ps_if (pt_cmpR op_notIn_seq (pv 1) (pe_glob (v := .ref aG) rfl T.sg rfl) (by with_unfolding_all rfl)) (pss_one (ps_raise rfl T.eN rfl hm (pa_cons (pe_joined (pj_cons (pe_fmtR (pv 1)) (pj_cons pe_str pj_nil))) pa_nil))) pss_nil)
    (pss_one (ps_if (pt_cmpR op_notIn_seq (pv 3) (pe_glob (v := .ref aD) rfl T.sd rfl) (by with_unfolding_all rfl)) (pss_one (ps_raise rfl T.eN rfl hm (pa_cons (pe_joined (pj_cons (pe_fmtR (pv 3)) (pj_cons pe_str pj_nil))) pa_nil))) pss_nil)))), ?_⟩
  refine ⟨_, rfl, l, rfl, ⟨_, SqL.of t1⟩, for_list (K := K) (a := l) (xs := as.map V.ref) (fun i σ H2 => ∃ a b c : Option V, σ = [some (.ref l), a, b, c] ∧ H2 = H ∧ ∀ r ∈ rs.take i, r.1 ∈ signMenu ∧ r.2.2 ∈ sideMenu) ?_ ?_ ?_ ?_⟩
  · exact ⟨none, none, none, rfl, rfl, fun r hr => by simp at hr⟩
  · rintro i σ H2 hi ⟨a, b, c, rfl, rfl, _⟩
    exact SqL.of t1
  · rintro i x σ H2 hi ⟨a, b, c, rfl, rfl, hok⟩
    obtain ⟨ra, r, rfl, hr1, hr2⟩ := row_get t2 hi
    have hmem : r ∈ rs := List.mem_of_getElem? hr1
    obtain ⟨sh1, sh2⟩ := hsh r hmem
    refine ⟨ra, _, rfl, SqT.of hr2, rfl, _, _, rfl, _, _, rfl, _, _, rfl, rfl, ?_⟩
    refine ⟨_, rfl, _, _, rfl, .inr (T.gq H2), rfl, all_flat _, _, rfl, ?_⟩
    refine ite2 (fun c1 => ?_) (fun c1 => ?_)
    · have c2 : (!inV (.str r.1) (signsPy.map V.str)) = true := c1
      rw [inV_str, Bool.not_eq_true', decide_eq_false_iff_not, signsPy_iff] at c2
      have hno : ¬ Words rs := fun z => c2 (z r hmem).1
      refine ⟨_, rfl, _, rfl, Nat.le_trans sh1.repr (by decide), _, rfl, joined_ok (by decide +kernel) sh1.repr, _, rfl, ?_, ?_, (by show 1 ≤ sizeLine; decide), q2 hno⟩
      all_goals exact joined_ok (by show (Str.empty ++ reprText r.1).length ≤ 202; rw [strLen_append]; exact Nat.le_trans (Nat.le_of_eq (Nat.zero_add _)) sh1.repr) (by decide +kernel)
    · have c2 : ¬ (!inV (.str r.1) (signsPy.map V.str)) = true := c1
      rw [inV_str, Bool.not_eq_true', decide_eq_false_iff_not, signsPy_iff, Classical.not_not] at c2
      refine ⟨_, rfl, _, _, rfl, .inr (T.dq H2), rfl, all_flat _, _, rfl, ?_⟩
      refine ite2 (fun c3 => ?_) (fun c3 => ?_)
      · have c4 : (!inV (.str r.2.2) (sideMenu.map V.str)) = true := c3
        rw [inV_str, Bool.not_eq_true', decide_eq_false_iff_not] at c4
        have hno : ¬ Words rs := fun z => c4 (z r hmem).2
        refine ⟨_, rfl, _, rfl, Nat.le_trans sh2.repr (by decide), _, rfl, joined_ok (by decide +kernel) sh2.repr, _, rfl, ?_, ?_, (by show 1 ≤ sizeLine; decide), q2 hno⟩
        all_goals exact joined_ok (by show (Str.empty ++ reprText r.2.2).length ≤ 202; rw [strLen_append]; exact Nat.le_trans (Nat.le_of_eq (Nat.zero_add _)) sh2.repr) (by decide +kernel)
      · have c4 : ¬ (!inV (.str r.2.2) (sideMenu.map V.str)) = true := c3
        rw [inV_str, Bool.not_eq_true', decide_eq_false_iff_not, Classical.not_not] at c4
        refine ⟨_, _, _, rfl, rfl, fun y hy => ?_⟩
        rcases take_succ_mem hr1 hy with z | rfl
        · exact hok y z
        · exact ⟨c2, c4⟩
  · rintro σ H2 ⟨a, b, c, rfl, rfl, hok⟩
    refine q1 fun r hr => hok r ?_
    rw [List.length_map, Pr.length t2, List.take_length]
    exact hr
end
end K05

namespace K05
open PySem L2 Fb PyProof.Rows
seal L2.PE L2.PT L2.PW L2.PA L2.PS L2.PSs L2.PC L2.PG L2.PGs L2.PI L2.PO Fb.PJ
noncomputable abbrev sLaw : Stmt := top 33
theorem leaf_a : LeafOk (.name "a") := ⟨by decide, by decide, fun c hc => by
  have e : (Str.ofString "a").cps.toList = [97] := by decide +kernel
  have hc' : c ∈ (Str.ofString "a").cps.toList := hc
  rw [e] at hc'; simp at hc'; rw [hc']; decide⟩
noncomputable def OpsOk (rs : List Row) (ops : List (Str × Rek)) : Prop := ∀ o ∈ ops, o.1 ∈ signsOf rs ∧ LeafOk o.2
noncomputable abbrev wdsOf (ops : List (Str × Rek)) : List Wd := Wd.leaf (.name "a") :: opWds ops
theorem wds_ok {rs : List Row} {ops : List (Str × Rek)} (h : OpsOk rs ops) : ∀ w ∈ wdsOf ops, w.Ok rs ∧ ∀ t, w = .leaf t → LeafOk t := fun w hw => by
  rcases List.mem_cons.mp hw with rfl | hw
  · exact ⟨rfl, fun t e => by cases e; exact leaf_a⟩
  · obtain ⟨l, hl', hw'⟩ := List.mem_flatten.mp hw
    obtain ⟨o, ho', rfl⟩ := List.mem_map.mp hl'
    obtain ⟨a, b⟩ := h o ho'
    simp only [List.mem_cons, List.not_mem_nil, or_false] at hw'
    rcases hw' with rfl | rfl
    · exact ⟨a, fun t e => by cases e⟩
    · refine ⟨?_, fun t e => by cases e; exact b⟩
      show o.2.isNode = false
      cases h : o.2 with
      | num n => rfl
      | name x => rfl
      | node _ _ _ => rw [h] at b; exact b.elim
theorem wds_len (ops : List (Str × Rek)) : (wdsOf ops).length = 2 * ops.length + 1 := by rw [List.length_cons, opWds_len]
theorem sep_ok (z : Int) : ∃ sep : List Nat, atI [V.str "", V.str " "] (z % 2) = some (.str (txtOf sep)) ∧ (sep = [] ∨ sep = [32]) := by
  have h : z % 2 = 0 ∨ z % 2 = 1 := by omega
  rcases h with h | h
  · exact ⟨[], by rw [h]; exact congrArg (fun x => some (V.str x)) s_none, .inl rfl⟩
  · exact ⟨[32], by rw [h]; exact congrArg (fun x => some (V.str x)) s_blank, .inr rfl⟩
theorem text_le {rs : List Row} (hf : Fine rs) {w : Wd} (h : w.Ok rs ∧ ∀ t, w = .leaf t → LeafOk t) : w.text.length ≤ 61 := by
  cases w with
  | leaf t => exact text_len (h.2 t rfl)
  | sign sg =>
    have e := (sg_not_br hf h.1).2.2.2.2
    show sg.cps.toList.length ≤ 61
    rw [e]
    exact (by decide : 1 ≤ 61)
theorem sum_le {α : Type} {f : α → Nat} {m : Nat} : ∀ {l : List α}, (∀ x ∈ l, f x ≤ m) → (l.map f).sum ≤ m * l.length
  | [], _ => Nat.le_refl _
  | x :: r, h => by
    have a := h x (by simp)
    have b := sum_le (l := r) fun y hy => h y (List.mem_cons_of_mem _ hy)
    rw [List.map_cons, List.sum_cons, List.length_cons]
    have : m * (r.length + 1) = m * r.length + m := Nat.mul_succ _ _
    omega
theorem atI_last {α : Type} (xs : List α) (x : α) : atI (xs ++ [x]) (-1) = some x := by
  unfold atI ixN
  have h1 : ¬ (0 : Int) ≤ -1 := by decide
  rw [if_neg h1]
  simp only [List.length_append, List.length_cons, List.length_nil]
  rw [if_pos (by omega)]
  have e : ((-1 : Int) + ((xs.length + (0 + 1) : Nat) : Int)).toNat = xs.length := by omega
  rw [e]
  simp
noncomputable abbrev rListOf (K : PySem.W.Frag) : List V → Hp → VK → Prop := fun xs H Q => ∃ p ys, xs = [.ref p] ∧ (SqL K H p ys ∨ SqT K H p ys) ∧ ∀ l, H l = none → Q (.ref l) (upd H l (.lst ys))
noncomputable abbrev rIsX (K : PySem.W.Frag) : List V → Hp → VK → Prop := fun xs H Q => ∃ a C c b, xs = [.ref a, c] ∧ H a = some (.ext (ExcAt a C)) ∧ ExcIs K C ∧ (∃ T, c = .ty T ∨ ∃ D, c = .ref D) ∧ PySem.W.kitOne K (.ref C) (valC c) = some b ∧ Q (.bl b) H
section
variable {P : Program} {w : World} {K : PySem.W.Frag} {mg : Str → Option Value} {base : Heap}
noncomputable abbrev nLaw : List Str := ["_law_script", "_law_rows", "_law_ranks", "_law_sides", "_law_row", "_law_words", "_law_signs", "_law_k", "_law_line", "_law_found", "_law_refused", "e"]
theorem scLaw : FnScope nLaw ["_law_script"] (defScope sLaw) := ⟨rfl, rfl, rfl, by decide +kernel, rfl, by decide +kernel, by decide +kernel⟩
noncomputable abbrev rStrW : List V → Hp → VK → Prop := fun xs H Q => ∃ w : Wd, xs = [w.v] ∧ (∀ t, w = .leaf t → LeafOk t) ∧ Q (.str (txtOf w.text)) H
theorem ok_law {n : Nat} {CL CB : Addr} {f : Addr} {fd : FuncData} (F : Fun K "law" "law" sLaw f fd)
    (cAt : Cal P w K mg base CX0 n "_law_at" psAt (spAt K)) (cRk : Cal P w K mg base CX0 n "_law_ranked" psRanked spRanked) (cBd : Cal P w K mg base CX0 n "_law_budded" psBud spBud)
    (cCl : Cal P w K mg base CX0 n "_law_clash" psClash spClash) (cBi : Cal P w K mg base CX0 n "_law_binds" psBinds spBinds) (cMa : Cal P w K mg base CX0 n "_law_matched" psMatched spMatched) (cFl : Cal P w K mg base CX0 n "_law_flat" psFlat spFlat)
    (cRd : Cal P w K mg base (CX1 P w) n "read" ["table", "line"] (spReadOk CL)) (hIs : ExcIs K CL) (hk : PySem.W.kitOne K (.ref CL) (.ref CL) = some true) (hx : PySem.W.exmOne K (.ref CL) (.ref CB) = some true) (mB : mg "BracketError" = some (.ref CB)) (mN : mg "NoLine" = some (.ref CL))
    (ml : mg "len" = none) (mr : mg "range" = none) (ms : mg "str" = none) (mi : mg "isinstance" = none) (mli : mg "list" = none) (mmi : mg "min" = none) :
    FnOk P w K mg base CX0 (n + 1) f fd ["_law_script"] (spLaw K) := by
  refine F.ok scLaw (fun vs H Q E h => ?_) (fun cdv A outer s H vs Q E hr h => ?_)
  · obtain ⟨a, ns, rfl, _⟩ := h; rfl
  obtain ⟨a, ns, rfl, hs, hl, hz, q⟩ := h
  have nd := scLaw.nd
  have ndC : ((["_law_word"] : List Str) ++ []).Nodup := by decide +kernel
  have hu2 := hu_of hr
  refine ⟨_, pss_cons (ps_set (i := 1) nd rfl (Or.inl rfl) (pe_cal cRk hr rfl pass0 (pa_cons (pe_cal cAt hr rfl pass0 (pa_cons (pv 0) (pa_cons pe_int pa_nil))) pa_nil)))
    (pss_cons (ps_set (i := 2) nd rfl (Or.inl rfl) pe_dnewK) (pss_cons (ps_set (i := 3) nd rfl (Or.inl rfl) pe_dnewK)
    (pss_cons (ps_for PassesOwn.never rfl (pi_list (pv 1)) (pg_name (i := 4) nd rfl (Or.inl rfl))
      (pss_cons (ps_dput hu2 (pv 2) (pe_ix ix_tup (pv 4) pe_int (fun _ _ => rfl)) (pe_ix ix_tup (pv 4) pe_int (fun _ _ => rfl)) rfl)
      (pss_one (ps_dput hu2 (pv 3) (pe_ix ix_tup (pv 4) pe_int (fun _ _ => rfl)) (pe_ix ix_tup (pv 4) pe_int (fun _ _ => rfl)) rfl))))
    (pss_cons (ps_set (i := 5) nd rfl (Or.inl rfl) (pe_lst (pa_cons pe_str pa_nil))) (pss_cons (ps_set (i := 6) nd rfl (Or.inl rfl) (pe_lst pa_nil))
    (pss_cons (ps_for PassesOwn.never rfl (pi_range2 rfl mr (pa_cons pe_int (pa_cons (pe_callB (call_min2 rfl) rfl mmi (by decide +kernel) (pa_cons pe_int (pa_cons (pe_callB call_len_seq rfl ml PySem.boot_len (pa_cons (pv 0) pa_nil)) pa_nil))) pa_nil))) (pg_name (i := 7) nd rfl (Or.inl rfl))
      (pss_cons (ps_expr (pe_bm PySem.F.plainAttrs_list PySem.F.slot_list_append PySem.F.type_list_append mt_append (pv 6) (pa_cons (pe_ix ix_tup (pe_ix ix_list (pv 1) (pe_op op_mod (pe_op op_add (pe_ix ix_list (pv 0) (pv 7) (fun _ _ => rfl)) (pv 7)) (pe_callB call_len_seq rfl ml PySem.boot_len (pa_cons (pv 1) pa_nil))) (fun _ _ => rfl)) pe_int (fun _ _ => rfl)) pa_nil)))
      (pss_one (ps_set (i := 5) nd rfl (Or.inl rfl) (pe_op op_cat (pv 5) (pe_lst (pa_cons (pe_ix ix_list (pv 6) (pe_un un_neg pe_int) (fun _ _ => rfl)) (pa_cons (pe_cal cBd hr rfl pass0 (pa_cons (pe_op op_add (pe_op op_fdiv (pe_ix ix_list (pv 0) (pv 7) (fun _ _ => rfl)) pe_int) (pv 7)) pa_nil)) pa_nil))))))))
    (pss_cons (ps_set (i := 8) nd rfl (Or.inl rfl) (pe_bm PySem.F.plainAttrs_str PySem.F.slot_str_join PySem.F.type_str_join mt_join (pe_ix ix_list (pe_lst (pa_cons pe_str (pa_cons pe_str pa_nil))) (pe_op op_mod (pe_op op_fdiv (pe_cal cAt hr rfl pass0 (pa_cons (pv 0) (pa_cons pe_int pa_nil))) pe_int) pe_int) (fun _ _ => rfl))
      (pa_cons (pe_comp (cl := []) (Nl := ["_law_word"]) (Nf := []) (js := []) (g := gName 0) (tt := tNoTest) (te := tCB rStrW (tCons (tVar 0) tNil))
        rfl (compSc_plain rfl (by decide +kernel) (by decide +kernel)) (pi_list (pv 5)) (fun _ _ _ _ => pg_name (i := 0) ndC rfl (Or.inl rfl)) (fun _ _ _ _ => pts_nil) (fun _ _ _ _ => pe_callTy call_str_wd rfl ms PyProof.Rows.boot_str (pa_cons (pv 0) pa_nil))) pa_nil)))
    (pss_cons (ps_set (i := 9) nd rfl (Or.inl rfl) pe_non) (pss_cons (ps_set (i := 10) nd rfl (Or.inl rfl) pe_bl)
    (pss_cons (ps_try (i := 11) rfl ⟨_, rfl⟩ rfl nd rfl rfl rfl mB
        (fun pins Hand => pss_one (ps_set (i := 9) nd rfl (Or.inl rfl) (pe_calX (E := handE Hand) cRd hr rfl inTry.passes (pa_cons (pe_callTy (r := rListOf K) call_list_of rfl mli rfl (pa_cons (pv 1) pa_nil)) (pa_cons (pv 8) pa_nil)))))
        (fun pins a => pss_one (ps_set (i := 10) nd rfl (Or.inl rfl) (pe_callB (r := rIsX K) call_isiX rfl mi rfl (pa_cons (pv 11) (pa_cons (pe_glob (v := .ref CL) rfl mN rfl) pa_nil))))))
    (pss_cons (ps_if (pt_val (pe_cal cCl hr rfl pass0 (pa_cons (pv 6) (pa_cons (pv 2) (pa_cons (pv 3) pa_nil))))) (pss_one (ps_ret (pv 10))) pss_nil)
    (pss_cons (ps_if (PW.pt (pw_or (pt_val (pv 10)) (pw_or1 (pt_not (pt_val (pe_cal cBi hr rfl pass0 (pa_cons (pv 9) (pa_cons (pv 2) (pa_cons (pv 3) pa_nil))))))))) (pss_one (ps_ret pe_bl)) pss_nil)
    (pss_one (ps_ret (pe_cal cMa hr rfl pass0 (pa_cons (pe_cal cFl hr rfl pass0 (pa_cons (pv 9) pa_nil)) (pa_cons (pv 5) pa_nil))))))))))))))))), ?_⟩
  have hsd : Sized (ns.getD 0 0) := by
    cases ns with
    | nil => exact sized0
    | cons m r => exact hz m (by simp)
  refine cutS fun U1 hU1 => ⟨_, rfl, a, ns, 0, rfl, hs, _, rfl, hsd, fun rl H1 e1 hrl ⟨ras, hrs, hrows⟩ => ?_⟩
  generalize hseed : ns.getD 0 0 = seed at *
  have fine := ranked_fine seed
  have rlen := ranked_len10 seed
  generalize hrs' : ranked seed = rs at *
  have hs1 := e1.lst hs
  show U1 _ _ _
  subst hU1
  -- the two dicts
  refine cutS fun U2 hU2 => fun dr hdr => ?_
  show U2 _ _ _
  subst hU2
  refine cutS fun U3 hU3 => fun ds hds => ?_
  show U3 _ _ _
  subst hU3
  obtain ⟨nds, hds0⟩ := free_upd hds
  have e2 : Same H1 (upd (upd H1 dr (.dK [])) ds (.dK [])) := (Same.new hdr _).put hds0 _
  have h2r : upd (upd H1 dr (.dK [])) ds (.dK []) dr = some (.dK []) := by rw [upd_ne (Ne.symm nds), upd_same]
  have h2s : upd (upd H1 dr (.dK [])) ds (.dK []) ds = some (.dK []) := upd_same
  generalize upd (upd H1 dr (.dK [])) ds (.dK []) = H2 at e2 h2r h2s ⊢
  refine cutS fun U4 hU4 => ⟨_, rfl, rl, rfl, ⟨_, SqL.of (e2 _ _ hrs)⟩, for_list (K := K) (a := rl) (xs := ras.map V.ref) (fun i σ H3 => ∃ rv : Option V, σ = [some (.ref a), some (.ref rl), some (.ref dr), some (.ref ds), rv, none, none, none, none, none, none, none] ∧ Same H1 H3 ∧ ∃ ka kb : List (Key × V), H3 dr = some (.dK ka) ∧ H3 ds = some (.dK kb) ∧ ka.length ≤ i ∧ kb.length ≤ i ∧
    (∀ r ∈ rs.take i, valV ka (Sum.inr r.1) = some (.int r.2.1)) ∧ (∀ r ∈ rs.take i, valV kb (Sum.inr r.1) = some (.str r.2.2))) ?_ ?_ ?_ ?_⟩
  · exact ⟨none, rfl, e2, [], [], h2r, h2s, Nat.le_refl _, Nat.le_refl _, by simp, by simp⟩
  · rintro i σ H3 hi ⟨rv, _, e3, _⟩
    exact SqL.of (e3 _ _ hrs)
  · rintro i x σ H3 hi ⟨rv, rfl, e3, ka, kb, h3r, h3s, la, lb, va, vb⟩
    obtain ⟨ra, r, rfl, hr1, hr2⟩ := row_get hrows hi
    have hr3 := e3 _ _ hr2
    have hil : i < rs.length := (List.getElem?_eq_some_iff.mp hr1).1
    have nn : ∀ q ∈ rs.take i, q.1 ≠ r.1 := fun q hq z => by
      have hd := fine.once
      have e : rs = rs.take i ++ r :: rs.drop (i + 1) := by
        conv => lhs; rw [← List.take_append_drop i rs]
        rw [List.drop_eq_getElem_cons hil]
        have := (List.getElem?_eq_some_iff.mp hr1).2
        rw [this]
      rw [e, List.map_append, List.nodup_append] at hd
      exact hd.2.2 q.1 (List.mem_map.mpr ⟨q, hq, rfl⟩) r.1 (by simp) z
    refine ⟨_, rfl, ra, _, 1, .int r.2.1, rfl, rfl, SqT.of hr3, rfl, _, rfl, _, rfl, ra, _, 0, .str r.1, rfl, rfl, SqT.of hr3, rfl, dr, _, rfl, DPut.k (k := (Sum.inr r.1 : Key)) h3r (small1000 (by omega)), ?_⟩
    have n1 : ds ≠ dr := Ne.symm nds |> Ne.symm
    have h4a : upd H3 dr (.dK (putK ka (Sum.inr r.1) (.int r.2.1))) dr = some (.dK (putK ka (Sum.inr r.1) (.int r.2.1))) := upd_same
    have h4b : upd H3 dr (.dK (putK ka (Sum.inr r.1) (.int r.2.1))) ds = some (.dK kb) := by rw [upd_ne nds]; exact h3s
    have e4 : Same H1 (upd H3 dr (.dK (putK ka (Sum.inr r.1) (.int r.2.1)))) := e3.put hdr _
    have hr4 := e4 _ _ hr2
    generalize upd H3 dr (.dK (putK ka (Sum.inr r.1) (.int r.2.1))) = H4 at h4a h4b e4 hr4 ⊢
    refine ⟨_, rfl, ra, _, 2, .str r.2.2, rfl, rfl, SqT.of hr4, rfl, _, rfl, _, rfl, ra, _, 0, .str r.1, rfl, rfl, SqT.of hr4, rfl, ds, _, rfl, DPut.k (k := (Sum.inr r.1 : Key)) h4b (small1000 (by omega)), ?_⟩
    refine ⟨_, rfl, e4.put hds0 _, _, _, by rw [upd_ne (Ne.symm nds)]; exact h4a, upd_same, Nat.le_trans put_len (by omega), Nat.le_trans put_len (by omega), ?_, ?_⟩
    · rw [take_snoc' hr1]; exact put_keep (g := fun r => .int r.2.1) va nn
    · rw [take_snoc' hr1]; exact put_keep (g := fun r => .str r.2.2) vb nn
  rintro σ H3 ⟨rv, rfl, e3, ka, kb, h3r, h3s, _, _, va, vb⟩
  have lr := Pr.length hrows
  rw [List.length_map, lr, List.take_length] at va vb
  have hR3 : RankD H3 dr rs := sgD_of h3r va fun r hr => congrArg V.int (rank_side_mem fine.once hr).1
  have hD3 : SideD H3 ds rs := sgD_of h3s vb fun r hr => congrArg V.str (rank_side_mem fine.once hr).2
  clear h3r h3s va vb h2r h2s
  have hs3 := e3.lst hs1
  have hr3 := e3 _ _ hrs
  have hrw3 := RowsAt.same e3 hrows
  show U4 _ _ _
  subst hU4
  -- words and signs
  refine cutS fun U5 hU5 => ⟨(by show 1 ≤ sizeLine; decide), fun w0 hw0 => ?_⟩
  show U5 _ _ _
  subst hU5
  refine cutS fun U6 hU6 => ⟨(by show 0 ≤ sizeLine; decide), fun ls hls => ?_⟩
  obtain ⟨nls, hls0⟩ := free_upd hls
  have e4 : Same H3 (upd (upd H3 w0 (.lst [.str "a"])) ls (.lst [])) := (Same.new hw0 _).put hls0 _
  have h4w : upd (upd H3 w0 (.lst [.str "a"])) ls (.lst []) w0 = some (.lst ((wdsOf []).map Wd.v)) := by rw [upd_ne (Ne.symm nls), upd_same]; rfl
  have h4s : upd (upd H3 w0 (.lst [.str "a"])) ls (.lst []) ls = some (.lst []) := upd_same
  generalize upd (upd H3 w0 (.lst [.str "a"])) ls (.lst []) = H4 at e4 h4w h4s ⊢
  show U6 _ _ _
  subst hU6
  have hmin : (if ((ns.map V.int).length : Int) < (101 : Int) then ((ns.map V.int).length : Int) else 101) = (ns.length : Int) := by rw [List.length_map, if_pos (by omega)]
  refine cutS fun U7 hU7 => ⟨_, rfl, a, _, rfl, .inl (e4.lst hs3), 101, _, rfl, ?_⟩
  rw [hmin]
  refine ⟨1, (ns.length : Int), rfl, by omega, for_range (lo := 1) (n := ((ns.length : Int) - 1).toNat) (fun j σ H5 => ∃ (kv : Option V) (lw : Addr) (ops : List (Str × Rek)), σ = [some (.ref a), some (.ref rl), some (.ref dr), some (.ref ds), rv, some (.ref lw), some (.ref ls), kv, none, none, none, none] ∧ Same H3 H5 ∧ H5 ls = some (.lst ((ops.map (·.1)).map V.str)) ∧ H5 lw = some (.lst ((wdsOf ops).map Wd.v)) ∧ OpsOk rs ops ∧ ops.length = j) ?_ ?_ ?_⟩
  · exact ⟨none, w0, [], rfl, e4, h4s, h4w, fun o ho => (by cases ho), rfl⟩
  · rintro j σ H5 hj ⟨kv, lw, ops, rfl, e5, h5s, h5w, hops, rfl⟩
    have hj' : ops.length + 1 < ns.length := by omega
    have hnx : atI (ns.map V.int) ((1 : Int) + (ops.length : Int)) = some (.int (ns.getD (ops.length + 1) 0)) := by
      have := atI_getD V.int ns 0 (i := (1 : Int) + (ops.length : Int)) (by omega) (by omega)
      rw [this]
      have e : ((1 : Int) + (ops.length : Int)).toNat = ops.length + 1 := by omega
      rw [e]
    generalize ns.getD (ops.length + 1) 0 = c at hnx
    have hs5 := e5.lst hs3
    have hr5 := e5 _ _ hr3
    have hrw5 := RowsAt.same e5 hrw3
    obtain ⟨ra, r, hat, hrow, hmem⟩ := tab_mod hrw5 rlen.1 (c + ((1 : Int) + (ops.length : Int)))
    have hsg : r.1 ∈ signsOf rs := List.mem_map.mpr ⟨r, hmem, rfl⟩
    refine ⟨_, rfl, .inl ⟨rfl, _, SqL.of h5s⟩, _, rfl, _, rfl, _, rfl, a, _, _, _, rfl, rfl, hs5, hnx, _, rfl, _, _, rfl, rfl, _, rfl, rl, _, rfl, .inl (SqL.of hr5), _, _, rfl, rfl, ?_, rl, _, _, _, rfl, rfl, SqL.of hr5, hat, ra, _, 0, .str r.1, rfl, rfl, SqT.of hrow, rfl, ls, _, _, rfl, rfl, h5s, ?_, ?_⟩
    · rw [List.length_map, Pr.length hrw5]; show (0 : Int) < _; omega
    · rw [List.length_map, List.length_map]; exact small1000 (by omega)
    have nwl : lw ≠ ls := fun z => by
      rw [z, h5s] at h5w
      have h5w' := congrArg (fun o => match o with | some (HO.lst xs) => xs.length | _ => 0) h5w
      have : ((ops.map (·.1)).map V.str).length = ((wdsOf ops).map Wd.v).length := h5w'
      rw [List.length_map, List.length_map, List.length_map, wds_len] at this
      omega
    have e6 : Same H3 (upd H5 ls (.lst ((ops.map (·.1)).map V.str ++ [.str r.1]))) := e5.put hls0 _
    have h6s : upd H5 ls (.lst ((ops.map (·.1)).map V.str ++ [.str r.1])) ls = some (.lst ((ops.map (·.1)).map V.str ++ [.str r.1])) := upd_same
    have h6w : upd H5 ls (.lst ((ops.map (·.1)).map V.str ++ [.str r.1])) lw = some (.lst ((wdsOf ops).map Wd.v)) := by rw [upd_ne nwl]; exact h5w
    generalize upd H5 ls (.lst ((ops.map (·.1)).map V.str ++ [.str r.1])) = H6 at e6 h6s h6w ⊢
    refine ⟨_, rfl, _, rfl, _, rfl, ls, _, _, .str r.1, rfl, rfl, SqL.of h6s, atI_last _ _, _, rfl, _, rfl, a, _, _, _, rfl, rfl, e6.lst hs3, hnx, _, _, rfl, rfl, ⟨by decide, by decide⟩, _, rfl, _, _, rfl, rfl, _, rfl, fun v t H7 hlf ht e7 => ⟨(by show 2 ≤ sizeLine; decide), fun n1 hn1 => ?_⟩⟩
    have h7s := e7 _ _ h6s
    have h7w := e7 _ _ h6w
    have nn1 : lw ≠ n1 := ne_of_none h7w hn1
    refine ⟨lw, n1, _, _, rfl, rfl, (by rw [upd_ne nn1]; exact h7w), upd_same, ?_, fun n2 hn2 => ?_⟩
    · rw [List.length_map, wds_len]
      show 2 * ops.length + 1 + 2 ≤ sizeLine
      exact Nat.le_of_lt (small1000 (by omega))
    obtain ⟨n12, hn20⟩ := free_upd hn2
    have e67 := e6.trans e7
    refine ⟨_, n2, ops ++ [(r.1, t)], rfl, ((e67.put (e67.free hn1) _).put (e67.free hn20) _), ?_, ?_, ?_, by rw [List.length_append]; rfl⟩
    · rw [upd_ne (ne_of_none h7s hn20), upd_ne (ne_of_none h7s hn1), h7s, List.map_append, List.map_append]; rfl
    · rw [upd_same]
      have e : (wdsOf (ops ++ [(r.1, t)])).map Wd.v = (wdsOf ops).map Wd.v ++ [.str r.1, v] := by
        show (Wd.leaf (.name "a") :: opWds (ops ++ [(r.1, t)])).map Wd.v = _
        rw [opWds_snoc, ← List.cons_append, List.map_append]
        show _ ++ [.str r.1, (Wd.leaf t).v] = _
        rw [← wd_leaf_v ht hlf]
      rw [e]
    · intro o ho
      rcases List.mem_append.mp ho with z | z
      · exact hops o z
      · have e : o = (r.1, t) := by simpa using z
        rw [e]; exact ⟨hsg, hlf⟩
  rintro σ H5 ⟨kv, lw, ops, rfl, e5, h5s, h5w, hops, hlen⟩
  have hlen62 : ops.length ≤ 62 := by omega
  show U7 _ _ _
  subst hU7
  -- the line
  have hwok := wds_ok hops
  refine cutS fun U8 hU8 => ⟨(by show 2 ≤ sizeLine; decide), fun n1 hn1 => ?_⟩
  have e6 : Same H5 (upd H5 n1 (.lst [.str "", .str " "])) := Same.new hn1 _
  have h6n : upd H5 n1 (.lst [.str "", .str " "]) n1 = some (.lst [.str "", .str " "]) := upd_same
  generalize upd H5 n1 (.lst [.str "", .str " "]) = H6 at e6 h6n ⊢
  have hs6 := (e5.trans e6).lst hs3
  obtain ⟨sep, hsep, hsep2⟩ := sep_ok (ns.getD 0 0 / 3)
  have h6w := e6 _ _ h5w
  refine ⟨_, rfl, a, ns, 0, rfl, hs6, _, _, rfl, rfl, ⟨by decide, by decide⟩, _, _, rfl, rfl, (by show (0 : Int) < 2; decide), n1, _, _, _, rfl, rfl, SqL.of h6n, hsep, rfl, _, rfl, lw, rfl, ⟨_, SqL.of h6w⟩, fun D hD => ?_⟩
  have nwD : lw ≠ D := ne_of_none h6w hD
  refine comp_list (K := K) (a := lw) (D := D) (xs := (wdsOf ops).map Wd.v) (fun i σ Hc => (∃ x : Option V, σ = [x]) ∧ Same H6 Hc ∧ Hc D = some (.lst (((wdsOf ops).take i).map fun w => V.str (txtOf w.text)))) ?_ ?_ ?_ ?_
  · exact ⟨⟨none, rfl⟩, Same.new hD _, by rw [upd_same]; rfl⟩
  · rintro i σ Hc hi ⟨_, e, _⟩
    exact SqL.of (e _ _ h6w)
  · rintro i x σ Hc hi ⟨⟨y, rfl⟩, e, hb⟩
    rw [List.getElem?_map] at hi
    cases hw : (wdsOf ops)[i]? with
    | none => rw [hw] at hi; cases hi
    | some wd =>
      rw [hw] at hi
      cases hi
      have hm : wd ∈ wdsOf ops := List.mem_of_getElem? hw
      have hil : i < (wdsOf ops).length := (List.getElem?_eq_some_iff.mp hw).1
      rw [wds_len] at hil
      unfold gName tNoTest
      dsimp only
      refine iteT ⟨_, rfl, wd, rfl, (hwok wd hm).2, _, hb, ?_, ⟨_, rfl⟩, e.put hD _, ?_⟩
      · rw [List.length_map, List.length_take]; exact small1000 (by omega)
      · rw [upd_same, take_snoc' hw, List.map_append]; rfl
  rintro σ Hc ⟨_, ec, hb⟩
  rw [List.length_map, List.take_length] at hb
  have hb' : Hc D = some (.lst (((wdsOf ops).map Wd.text).map fun z => V.str (txtOf z))) := by rw [hb, List.map_map]; rfl
  refine ⟨sep, D, (wdsOf ops).map Wd.text, rfl, rfl, hb', ?_, ?_⟩
  · rw [List.map_map]
    have hm : ∀ x ∈ wdsOf ops, ((fun z : List Nat => z.length + sep.length) ∘ Wd.text) x ≤ 62 := fun x hx => by
      have a := text_le fine (hwok x hx)
      have b : sep.length ≤ 1 := by rcases hsep2 with z | z <;> rw [z] <;> decide
      show (Wd.text x).length + sep.length ≤ 62
      omega
    have := sum_le hm
    rw [wds_len] at this
    omega
  have ec5 := e6.trans ec
  have hcs := ec5 _ _ h5s
  have hcw := ec5 _ _ h5w
  have e3c := e5.trans ec5
  rw [glue_tail]
  generalize hx : (Rek.name "a").text ++ tailL sep ops = x
  show U8 _ _ _
  subst hU8
  clear hb hb' h6w h6n hn1 hsep
  refine cutS fun U9 hU9 => ?_
  show U9 _ _ _
  subst hU9
  refine cutS fun U10 hU10 => ?_
  show U10 _ _ _
  subst hU10
  have lok := line_ok fine hsep2 leaf_a hops hlen62
  have lrd := line_reads fine hsep2 leaf_a hops
  rw [hx] at lok lrd
  refine cutS fun U11 hU11 => ?_
  -- what comes behind
  have rest : ∀ (fv : V) (b : Bool) (H9 : Hp), Same Hc H9 → b = clashB rs (ops.map (·.1)) → (b = false → ∃ t, TreeAt H9 fv t ∧ RB rs t ∧ flatWd t = wdsOf ops) →
      U11 { nx := fun _ H' => Q .non H', rt := Q } [some (.ref a), some (.ref rl), some (.ref dr), some (.ref ds), rv, some (.ref lw), some (.ref ls), kv, some (.str (txtOf x)), some fv, some (.bl b), none] H9 := by
    intro fv b H9 e9 hb ht
    show U11 _ _ _
    subst hU11
    have e39 := e3c.trans e9
    refine ⟨_, rfl, _, rfl, _, rfl, ls, dr, ds, _, rs, rfl, e9 _ _ hcs, by rw [List.length_map]; omega, fun s hs => ?_, hR3.same e39, hD3.same e39, _, rfl, ?_⟩
    · obtain ⟨o, ho, rfl⟩ := List.mem_map.mp hs
      exact (hops o ho).1
    rw [← hb]
    cases b with
    | true => exact iteT ⟨_, rfl, q H9⟩
    | false =>
      obtain ⟨t, h1, h2, h3⟩ := ht rfl
      have hsz : t.size = ops.length := by
        have := flatWd_len t
        rw [h3, wds_len] at this
        omega
      refine iteF ⟨_, rfl, _, rfl, iteF ?_⟩
      refine ⟨_, rfl, _, rfl, _, rfl, fv, t, dr, ds, rs, rfl, h1, h2, by omega, hR3.same e39, hD3.same e39, fun H10 e10 => ⟨_, rfl, iteF ?_⟩⟩
      refine ⟨_, rfl, fv, t, rfl, h1.same e10, by omega, fun l H11 e11 hl11 h11 => ⟨_, rfl, l, lw, _, rfl, h11, ?_, ?_, ?_, q H11⟩⟩
      · rw [h3]; exact e11 _ _ (e10 _ _ (e9 _ _ hcw))
      · rw [List.length_map, flatWd_len]; omega
      · intro y hy
        obtain ⟨wd, hwd, rfl⟩ := List.mem_map.mp hy
        rw [h3] at hwd
        exact Wd.plain (hwok wd hwd).1
  clear hU11
  refine ⟨fun C σ' H' => C = CL ∧ σ' = [some (.ref a), some (.ref rl), some (.ref dr), some (.ref ds), rv, some (.ref lw), some (.ref ls), kv, some (.str (txtOf x)), some .non, some (.bl false), none] ∧ Same Hc H' ∧ clashB rs (ops.map (·.1)) = true, ?_, ?_⟩
  · rintro C σ' H' ae ⟨rfl, rfl, e', hcl⟩ hae
    refine ⟨hx, ?_⟩
    refine ⟨_, rfl, ae, C, _, _, rfl, upd_same, hIs, ⟨"", .inr ⟨C, rfl⟩⟩, hk, ?_⟩
    exact rest .non true _ (e'.put (e'.free hae) _) hcl.symm fun z => by cases z
  · refine ⟨_, rfl, rl, _, rfl, .inl (SqL.of (e3c _ _ hr3)), fun hl' hhl => ?_⟩
    have e8 : Same Hc (upd Hc hl' (.lst (ras.map V.ref))) := Same.new hhl _
    refine ⟨_, rfl, hl', rs, x, rfl, ⟨ras, upd_same, RowsAt.same (e3c.trans e8) hrw3⟩, fine, rlen.2, lok, ?_⟩
    cases hcl : clashB rs (ops.map (·.1)) with
    | true => exact .inr ⟨lrd.2 ((clash_iff rs _).mp hcl), fun H' e' => ⟨CL, rfl, rfl, rfl, e8.trans e', rfl⟩⟩
    | false =>
      obtain ⟨t, r1, r2, r3⟩ := lrd.1 (fun z => by rw [(clash_iff rs _).mpr z] at hcl; cases hcl)
      exact .inl ⟨t, r1, fun v H' hv e' => rest v false H' (e8.trans e') hcl.symm fun _ => ⟨t, hv, r2, r3⟩⟩
end
end K05

namespace K05
open PySem L2 Fb PyProof.Rows
seal L2.PE L2.PT L2.PW L2.PA L2.PS L2.PSs L2.PC L2.PG L2.PGs L2.PI L2.PO Fb.PJ
noncomputable abbrev sRun : Stmt := top 20
noncomputable abbrev sEnd : Stmt := top 19
noncomputable abbrev sToks : Stmt := top 18
noncomputable abbrev sLeaf : Stmt := top 21
section
variable {P : Program} {w : World} {K : PySem.W.Frag} {mg : Str → Option Value} {base : Heap}
/-! ### end_of_run -/
noncomputable abbrev psRun : List Str := ["line", "start", "run"]
noncomputable abbrev nRun : List Str := ["line", "start", "run", "end"]
noncomputable def spRun : Sp := fun vs H Q _ => ∃ (x : List Nat) (k : Nat) (R : Str) (p : Nat → Bool), vs = [.str (txtOf x), .int k, .str R] ∧ x.length ≤ 20000 ∧ k ≤ x.length ∧ (∀ c, decide (c ∈ R.cps.toList) = p c) ∧ Q (.int ((k + runLen p (x.drop k) : Nat) : Int)) H
noncomputable def WRun (x : List Nat) (k : Nat) (R : Str) (p : Nat → Bool) (H : Hp) (m : Nat) (σ : L2.St) (H' : Hp) : Prop := ∃ j : Nat, σ = [some (.str (txtOf x)), some (.int k), some (.str R), some (.int ((k + j : Nat) : Int))] ∧ H' = H ∧ k + j ≤ x.length ∧ (∀ i, i < j → ∃ c, (x.drop k)[i]? = some c ∧ p c = true) ∧ m = x.length - (k + j)
theorem scRun : FnScope nRun psRun (defScope sRun) := ⟨rfl, rfl, rfl, by decide +kernel, rfl, by decide +kernel, by decide +kernel⟩
theorem len20 {x : List Nat} (h : x.length ≤ 20000) : (txtOf x).length ≤ sizeLine := by rw [txtOf_len]; exact big20 (by omega)
theorem at_drop {x : List Nat} {k j c : Nat} (h : x[k + j]? = some c) : (x.drop k)[j]? = some c := by rw [List.getElem?_drop]; exact h
theorem ok_run {f : Addr} {fd : FuncData} (F : Fun K "end_of_run" "end_of_run" sRun f fd) (ml : mg "len" = none) : FnOk P w K mg base CX0 1 f fd psRun spRun := by
  refine F.ok scRun (fun vs H Q E h => ?_) (fun cdv A outer s H vs Q E hr h => ?_)
  · obtain ⟨x, k, R, p, rfl, _⟩ := h; rfl
  obtain ⟨x, k, R, p, rfl, hx, hk, hp, q⟩ := h
  have nd := scRun.nd
  refine ⟨_, pss_cons (ps_set (i := 3) nd rfl (Or.inl rfl) (pv 1))
    (pss_cons (ps_while PassesOwn.never (PW.pt (pw_and (pt_cmpR op_lt (pv 3) (pe_callB call_len_str rfl ml PySem.boot_len (pa_cons (pv 0) pa_nil)) (nomark _)) (pw_and1 (pt_cmpR op_in_ch (pe_ix ix_str (pv 0) (pv 3) (fun _ _ => rfl)) (pv 2) rfl))))
      (pss_one (ps_aug (i := 3) nd rfl (Or.inl rfl) pe_int ip_add)))
    (pss_one (ps_ret (pv 3)))), ?_⟩
  refine ⟨_, rfl, WRun x k R p H, ⟨_, 0, rfl, rfl, by omega, fun i hi => by omega, rfl⟩, ?_⟩
  rintro m σ H' ⟨j, rfl, rfl, hj, hall, rfl⟩
  refine ⟨_, rfl, _, rfl, _, rfl, len20 hx, _, _, rfl, rfl, _, rfl, ite2 (fun c => ?_) (fun c => ?_)⟩
  · have hlt : k + j < x.length := by
      have := of_decide_eq_true c
      rw [txtOf_len] at this
      omega
    have hc : x[k + j]? = some x[k + j] := List.getElem?_eq_getElem hlt
    have hat : atI (txtOf x).cps.toList ((k + j : Nat) : Int) = some x[k + j] := by rw [cps_txtOf]; exact atI_nat hc
    refine ⟨_, rfl, _, rfl, _, _, _, rfl, rfl, len20 hx, hat, _, rfl, x[k + j], R, rfl, rfl, _, rfl, ?_⟩
    rw [hp]
    refine ite2 (fun c2 => ?_) (fun c2 => ?_)
    · refine ⟨fun σ' H2 => ∃ m', m' < x.length - (k + j) ∧ WRun x k R p H' m' σ' H2, fun _ _ z => z, ?_⟩
      refine ⟨_, rfl, _, _, rfl, rfl, _, ?_, j + 1, ?_, rfl, by omega, fun i hi => ?_, rfl⟩
      · omega
      · have e : ((k + j : Nat) : Int) + 1 = ((k + (j + 1) : Nat) : Int) := by omega
        rw [← e]; rfl
      · by_cases z : i < j
        · exact hall i z
        · have : i = j := by omega
          subst this
          exact ⟨_, at_drop hc, c2⟩
    · have e : runLen p (x.drop k) = j := runLen_eq hall fun d hd => by
        rw [List.getElem?_drop, hc] at hd
        cases hd
        simpa using c2
      rw [e] at q
      exact ⟨_, rfl, q⟩
  · have hge : k + j = x.length := by
      have : ¬ ((k + j : Nat) : Int) < (((txtOf x).length : Nat) : Int) := fun z => c (decide_eq_true z)
      rw [txtOf_len] at this
      omega
    have e : runLen p (x.drop k) = j := runLen_eq hall fun d hd => by
      rw [List.getElem?_drop, List.getElem?_eq_none (by omega)] at hd
      cases hd
    rw [e] at q
    exact iteF ⟨_, rfl, q⟩

/-! ### end_of_token -/
noncomputable abbrev psEnd : List Str := ["line", "start"]
noncomputable abbrev nEnd : List Str := ["line", "start", "run"]
noncomputable def spEnd : Sp := fun vs H Q _ => ∃ (x : List Nat) (k c : Nat), vs = [.str (txtOf x), .int k] ∧ x.length ≤ 20000 ∧ x[k]? = some c ∧ ∀ H', Same H H' → Q (.int ((k + tokLen c (x.drop (k + 1)) : Nat) : Int)) H'
theorem scEnd : FnScope nEnd psEnd (defScope sEnd) := ⟨rfl, rfl, rfl, by decide +kernel, rfl, by decide +kernel, by decide +kernel⟩
theorem drop_at {x : List Nat} {k c : Nat} (h : x[k]? = some c) : x.drop k = c :: x.drop (k + 1) := by
  obtain ⟨hlt, rfl⟩ := List.getElem?_eq_some_iff.mp h
  exact List.drop_eq_getElem_cons hlt
theorem ok_end {f : Addr} {fd : FuncData} {t1 t2 : PySem.Tok} (F : Fun K "end_of_token" "end_of_token" sEnd f fd) (cR : Cal P w K mg base CX0 1 "end_of_run" psRun spRun) (mL : mg "LETTERS" = some (.str lettersT t1)) (mF : mg "FIGURES" = some (.str figuresT t2)) :
    FnOk P w K mg base CX0 2 f fd psEnd spEnd := by
  refine F.ok scEnd (fun vs H Q E h => ?_) (fun cdv A outer s H vs Q E hr h => ?_)
  · obtain ⟨x, k, c, rfl, _⟩ := h; rfl
  obtain ⟨x, k, c, rfl, hx, hc, q⟩ := h
  have nd := scEnd.nd
  have hlt : k < x.length := (List.getElem?_eq_some_iff.mp hc).1
  have hat : atI (txtOf x).cps.toList (k : Int) = some c := by rw [cps_txtOf]; exact atI_nat hc
  refine ⟨_, pss_cons (ps_for PassesOwn.never rfl (pi_tup (pe_tup (pa_cons (pe_glob (v := .str lettersT) rfl mL ⟨_, rfl⟩) (pa_cons (pe_glob (v := .str figuresT) rfl mF ⟨_, rfl⟩) pa_nil)))) (pg_name (i := 2) nd rfl (Or.inl rfl))
      (pss_one (ps_if (pt_cmpR op_in_ch (pe_ix ix_str (pv 0) (pv 1) (fun _ _ => rfl)) (pv 2) rfl) (pss_one (ps_ret (pe_cal cR hr rfl pass0 (pa_cons (pv 0) (pa_cons (pv 1) (pa_cons (pv 2) pa_nil)))))) pss_nil)))
    (pss_one (ps_ret (pe_op op_add (pv 1) pe_int))), ?_⟩
  refine ⟨(by show 2 ≤ sizeLine; decide), fun p hp => ⟨p, rfl, ⟨_, SqT.of upd_same⟩, for_tup (K := K) (a := p) (xs := [.str lettersT, .str figuresT]) (fun i σ H2 => ∃ v : Option V, σ = [some (.str (txtOf x)), some (.int k), v] ∧ H2 = upd H p (.tup [.str lettersT, .str figuresT]) ∧ (1 ≤ i → isLet c = false) ∧ (2 ≤ i → isFig c = false)) ?_ ?_ ?_ ?_⟩⟩
  · exact ⟨none, rfl, rfl, fun z => by omega, fun z => by omega⟩
  · rintro i σ H2 hi ⟨v, rfl, rfl, _⟩
    exact SqT.of upd_same
  · rintro i v σ H2 hi ⟨v0, rfl, rfl, h1, h2⟩
    have e : Same H (upd H p (.tup [.str lettersT, .str figuresT])) := Same.new hp _
    have dr := drop_at hc
    match i, hi with
    | 0, hi =>
      cases hi
      refine ⟨_, rfl, _, rfl, _, _, _, rfl, rfl, len20 hx, hat, _, rfl, c, _, rfl, rfl, _, rfl, ?_⟩
      rw [in_letters]
      refine ite2 (fun c2 => ?_) (fun c2 => ?_)
      · refine ⟨_, rfl, _, rfl, _, rfl, x, k, _, isLet, rfl, hx, by omega, in_letters, ?_⟩
        have q' := q _ e
        unfold tokLen at q'
        rw [if_pos c2, ← dr] at q'
        exact q'
      · exact ⟨_, rfl, rfl, fun _ => by simpa using c2, fun z => by omega⟩
    | 1, hi =>
      cases hi
      refine ⟨_, rfl, _, rfl, _, _, _, rfl, rfl, len20 hx, hat, _, rfl, c, _, rfl, rfl, _, rfl, ?_⟩
      rw [in_figures]
      refine ite2 (fun c2 => ?_) (fun c2 => ?_)
      · refine ⟨_, rfl, _, rfl, _, rfl, x, k, _, isFig, rfl, hx, by omega, in_figures, ?_⟩
        have q' := q _ e
        unfold tokLen at q'
        rw [if_neg (by rw [h1 (by omega)]; decide), if_pos c2, ← dr] at q'
        exact q'
      · exact ⟨_, rfl, rfl, fun _ => h1 (by omega), fun _ => by simpa using c2⟩
    | n + 2, hi => simp at hi
  · rintro σ H2 ⟨v, rfl, rfl, h1, h2⟩
    have q' := q (upd H p (.tup [.str lettersT, .str figuresT])) (Same.new hp _)
    unfold tokLen at q'
    rw [if_neg (by rw [h1 (by decide)]; decide), if_neg (by rw [h2 (by decide)]; decide)] at q'
    have e : ((k + 1 : Nat) : Int) = (k : Int) + 1 := by omega
    rw [e] at q'
    exact ⟨_, rfl, _, _, rfl, rfl, q'⟩

/-! ### tokens_of -/
noncomputable abbrev psToks : List Str := ["line"]
noncomputable abbrev nToks : List Str := ["line", "tokens", "start", "end", "token"]
noncomputable def tokV (t : Fb.Tok) : V := .str (txtOf (tokT t))
noncomputable def spToks : Sp := fun vs H Q _ => ∃ x : List Nat, vs = [.str (txtOf x)] ∧ x.length ≤ 20000 ∧ ∀ l H', Same H H' → H l = none → H' l = some (.lst ((lex x).map tokV)) → Q (.ref l) H'
noncomputable def WToks (x : List Nat) (l : Addr) (H : Hp) (m : Nat) (σ : L2.St) (H' : Hp) : Prop := ∃ (k : Nat) (T : List Fb.Tok) (v1 v2 : Option V), σ = [some (.str (txtOf x)), some (.ref l), some (.int k), v1, v2] ∧ k ≤ x.length ∧ H' l = some (.lst (T.map tokV)) ∧ lex x = T ++ lex (x.drop k) ∧ T.length ≤ k ∧ Same H H' ∧ m = x.length - k
theorem scToks : FnScope nToks psToks (defScope sToks) := ⟨rfl, rfl, rfl, by decide +kernel, rfl, by decide +kernel, by decide +kernel⟩
theorem ok_toks {f : Addr} {fd : FuncData} (F : Fun K "tokens_of" "tokens_of" sToks f fd) (cE : Cal P w K mg base CX0 2 "end_of_token" psEnd spEnd) (ml : mg "len" = none) : FnOk P w K mg base CX0 3 f fd psToks spToks := by
  refine F.ok scToks (fun vs H Q E h => ?_) (fun cdv A outer s H vs Q E hr h => ?_)
  · obtain ⟨x, rfl, _⟩ := h; rfl
  obtain ⟨x, rfl, hx, q⟩ := h
  have nd := scToks.nd
  refine ⟨_, pss_cons (ps_set (i := 1) nd rfl (Or.inl rfl) (pe_lst pa_nil)) (pss_cons (ps_set (i := 2) nd rfl (Or.inl rfl) pe_int)
    (pss_cons (ps_while PassesOwn.never (pt_cmpR op_lt (pv 2) (pe_callB call_len_str rfl ml PySem.boot_len (pa_cons (pv 0) pa_nil)) (nomark _))
      (pss_cons (ps_set (i := 3) nd rfl (Or.inl rfl) (pe_cal cE hr rfl pass0 (pa_cons (pv 0) (pa_cons (pv 2) pa_nil))))
      (pss_cons (ps_set (i := 4) nd rfl (Or.inl rfl) (pe_slice sl_str (pv 0) (po_some (pv 2)) (po_some (pv 3))))
      (pss_cons (ps_if (pt_cmpR op_ne (pv 4) pe_str (nomark _)) (pss_one (ps_expr (pe_bm PySem.F.plainAttrs_list PySem.F.slot_list_append PySem.F.type_list_append mt_append (pv 1) (pa_cons (pv 4) pa_nil)))) pss_nil)
      (pss_one (ps_set (i := 2) nd rfl (Or.inl rfl) (pv 3)))))))
    (pss_one (ps_ret (pv 1))))), ?_⟩
  refine ⟨(by show 0 ≤ sizeLine; decide), fun l hl => ?_⟩
  refine ⟨WToks x l H, ⟨_, 0, [], none, none, rfl, by omega, upd_same, by simp, by simp, Same.new hl _, rfl⟩, ?_⟩
  rintro m σ H' ⟨k, T, v1, v2, rfl, hk, h1, h2, h3, e, rfl⟩
  refine ⟨_, rfl, _, rfl, _, rfl, len20 hx, _, _, rfl, rfl, _, rfl, ite2 (fun c => ?_) (fun c => ?_)⟩
  · have hlt : k < x.length := by
      have := of_decide_eq_true c
      rw [txtOf_len] at this
      omega
    have hc : x[k]? = some x[k] := List.getElem?_eq_getElem hlt
    refine ⟨fun σ' H2 => ∃ m', m' < x.length - k ∧ WToks x l H m' σ' H2, fun _ _ z => z, ?_⟩
    refine ⟨_, rfl, _, rfl, x, k, x[k], rfl, hx, hc, fun H2 e2 => ?_⟩
    have dr := drop_at hc
    have hp := tokLen_pos x[k] (x.drop (k + 1))
    have hf := lex_first x[k] (x.drop (k + 1))
    have hT := tokT_of x[k] (x.drop (k + 1))
    have ok := tokOf_ok x[k] (x.drop (k + 1))
    rw [← dr, List.length_drop] at hp
    rw [← dr, List.drop_drop] at hf
    rw [← dr] at hT
    generalize tokLen x[k] (x.drop (k + 1)) = n at hp hf hT ⊢
    generalize tokOf x[k] (x.drop (k + 1)) = t at hf hT ok
    refine ⟨_, rfl, _, rfl, _, rfl, _, rfl, _, rfl, x, k, k + n, rfl, rfl, rfl, by omega, by omega, big20 (by omega), ?_⟩
    rw [show k + n - k = n by omega, ← hT]
    have e3 := e.trans e2
    have h4 := e2 _ _ h1
    refine ⟨_, rfl, rfl, _, rfl, ite2 (fun c2 => ?_) (fun c2 => ?_)⟩
    · have nb : t ≠ .ch 32 := fun z => by
        rw [z, s_blank] at c2
        simp [tokT] at c2
      refine ⟨_, rfl, .inl ⟨rfl, _, SqL.of h4⟩, _, rfl, l, _, tokV t, rfl, rfl, h4, ?_, ?_⟩
      · rw [List.length_map]; exact big20' (by omega)
      · refine ⟨_, rfl, x.length - (k + n), by omega, k + n, T ++ [t], _, _, rfl, by omega, ?_, ?_, ?_, e3.put hl _, rfl⟩
        · rw [upd_same, List.map_append]; rfl
        · rw [h2, hf, if_neg nb]; simp
        · rw [List.length_append]; simp; omega
    · have yb : t = .ch 32 := by
        have c3 : decide (V.str (txtOf (tokT t)) = V.str (Str.ofString " ")) = true := by simpa using c2
        have c4 := V.str.inj (of_decide_eq_true c3)
        rw [s_blank] at c4
        exact (tokT_blank ok).mp (txtOf_inj c4)
      refine ⟨_, rfl, x.length - (k + n), by omega, k + n, T, _, _, rfl, by omega, h4, ?_, by omega, e3, rfl⟩
      rw [h2, hf, if_pos yb]; simp
  · have hge : k = x.length := by
      have : ¬ ((k : Nat) : Int) < (((txtOf x).length : Nat) : Int) := fun z => c (decide_eq_true z)
      rw [txtOf_len] at this
      omega
    subst hge
    rw [List.drop_length, lex_nil, List.append_nil] at h2
    rw [← h2] at h1
    exact ⟨_, rfl, q l H' e hl h1⟩

/-! ### leaf_of -/
noncomputable abbrev psLeaf : List Str := ["token"]
noncomputable def spLeaf (CL : Addr) : Sp := fun vs H Q E => ∃ t : Fb.Tok, vs = [tokV t] ∧ LexOk t ∧ (∀ w, t = .figs w → w.length ≤ 640) ∧ (tokT t).length ≤ 20000 ∧ (∀ c ∈ tokT t, c < 128) ∧ (∀ b, leafB t = some b → ∀ v, TreeAt H v b.erase → Q v H) ∧ (leafB t = none → E (.ref CL) none H)
theorem scLeaf : FnScope psLeaf psLeaf (defScope sLeaf) := ⟨rfl, rfl, rfl, by decide +kernel, rfl, by decide +kernel, by decide +kernel⟩
theorem ok_leaf {f CL : Addr} {fd : FuncData} {t1 t2 : PySem.Tok} (F : Fun K "leaf_of" "leaf_of" sLeaf f fd) (xL : ExcCls K mg "NoLine" CL) (mL : mg "LETTERS" = some (.str lettersT t1)) (mF : mg "FIGURES" = some (.str figuresT t2)) (mi : mg "int" = none) :
    FnOk P w K mg base (CX1 P w) 1 f fd psLeaf (spLeaf CL) := by
  refine Fun.okX F scLeaf (fun vs H Q E h => ?_) (fun cdv A outer s H vs Q E hr h => ?_)
  · obtain ⟨t, rfl, _⟩ := h; rfl
  obtain ⟨t, rfl, ok, hfl, hlen, hasc, q1, q2⟩ := h
  have nd := scLeaf.nd
  have hm : Mades (cxOf (CX1 P w) P w K mg base psLeaf "leaf_of" (defScope sLeaf) f cdv A outer s H E) CL (fun _ => E) := fun pins σ H s e h' vs I hx hE => passes_made I hx hE
  refine ⟨_, pss_cons (ps_if (pt_cmpR op_in_ch (pe_ix ix_str (pv 0) pe_int (fun _ _ => rfl)) (pe_glob (v := .str lettersT) rfl mL ⟨_, rfl⟩) rfl) (pss_one (ps_ret (pv 0))) pss_nil)
    (pss_cons (ps_if (pt_cmpR op_notin_ch (pe_ix ix_str (pv 0) pe_int (fun _ _ => rfl)) (pe_glob (v := .str figuresT) rfl mF ⟨_, rfl⟩) rfl) (pss_one (ps_raise rfl xL rfl hm (pa_cons (pe_joined (pj_cons (pe_fmtR (pv 0)) (pj_cons pe_str pj_nil))) pa_nil))) pss_nil)
    (pss_cons (ps_if (PW.pt (pw_and (pt_cmpR op_eq (pe_ix ix_str (pv 0) pe_int (fun _ _ => rfl)) pe_str (nomark _)) (pw_and1 (pt_cmpR op_ne (pv 0) pe_str (nomark _)))))
      (pss_one (ps_raise rfl xL rfl hm (pa_cons (pe_joined (pj_cons pe_str (pj_cons (pe_fmtS (pv 0)) (pj_cons pe_str pj_nil)))) pa_nil))) pss_nil)
    (pss_one (ps_ret (pe_callTy call_int_text rfl mi PyProof.Rows.boot_int (pa_cons (pv 0) pa_nil)))))), ?_⟩
  have hz : (txtOf (tokT t)).length ≤ sizeLine := by rw [txtOf_len]; exact big20 (by omega)
  obtain ⟨c, r, hcr⟩ : ∃ c r, tokT t = c :: r := by
    cases e : tokT t with
    | nil => exact absurd e (tokT_ne ok)
    | cons c r => exact ⟨c, r, rfl⟩
  have hat : atI (txtOf (tokT t)).cps.toList 0 = some c := by rw [cps_txtOf, hcr]; exact atI_nat (j := 0) rfl
  refine ⟨_, rfl, _, _, _, rfl, rfl, hz, hat, c, _, rfl, rfl, _, rfl, ?_⟩
  rw [in_letters]
  refine ite2 (fun c1 => ?_) (fun c1 => ?_)
  · -- a name
    cases t with
    | word w =>
      have e : leafB (.word w) = some (.name ⟨w.toArray⟩) := if_pos ok
      exact ⟨_, rfl, q1 _ e _ rfl⟩
    | figs w =>
      have := ok.2 c (by rw [show w = c :: r from hcr]; simp)
      rw [let_not_fig this] at c1; cases c1
    | ch d =>
      have hd : d = c := by have : [d] = c :: r := hcr; simp at this; exact this.1
      have := ok.1
      rw [hd, c1] at this; cases this
  refine ⟨_, rfl, _, _, _, rfl, rfl, hz, hat, c, _, rfl, rfl, _, rfl, ?_⟩
  rw [in_figures]
  refine ite2 (fun c2 => ?_) (fun c2 => ?_)
  · -- neither a letter nor a figure
    have nf : isFig c = false := by simpa using c2
    have e : leafB t = none := by
      cases t with
      | word w =>
        have := ok.2 c (by rw [show w = c :: r from hcr]; simp)
        rw [this] at c1; exact absurd rfl c1
      | figs w =>
        have := ok.2 c (by rw [show w = c :: r from hcr]; simp)
        rw [nf] at this; cases this
      | ch d => rfl
    obtain ⟨j1, j2, j3⟩ := join3_ok (a := reprText (txtOf (tokT t))) (b := " is neither a sign of the table nor a leaf") (c := Str.empty) (Nat.le_trans (repr_len hlen hasc) (by decide)) (by decide +kernel) (by decide +kernel)
    exact ⟨_, rfl, _, rfl, Nat.le_trans (repr_len hlen hasc) (by decide), _, rfl, j1, _, rfl, j2, j2, (by show 1 ≤ sizeLine; decide), q2 e⟩
  -- a number
  have hfig : isFig c = true := by simpa using c2
  obtain ⟨w, rfl⟩ : ∃ w, t = .figs w := by
    cases t with
    | word w =>
      have := ok.2 c (by rw [show w = c :: r from hcr]; simp)
      rw [this] at c1; exact absurd rfl c1
    | figs w => exact ⟨w, rfl⟩
    | ch d =>
      have hd : d = c := by have : [d] = c :: r := hcr; simp at this; exact this.1
      have := ok.2
      rw [hd, hfig] at this; cases this
  have hw : w = c :: r := hcr
  have iff := digs_back_iff ok.1 ok.2
  have s0 : (Str.ofString "0") = txtOf [48] := by decide +kernel
  have good : (w.head? = some 48 → w = [48]) → Q (.int (figVal w)) H := fun z => by
    have e : leafB (.figs w) = some (.num (figVal w)) := if_pos (iff.mpr z)
    exact q1 _ e _ rfl
  have bad : ¬ (w.head? = some 48 → w = [48]) → E (.ref CL) none H := fun z => q2 (if_neg (fun y => z (iff.mp y)))
  refine ⟨_, rfl, _, _, _, rfl, rfl, hz, hat, rfl, _, rfl, ?_⟩
  refine ite2 (fun c3 => ?_) (fun c3 => ?_)
  · have e48 : c = 48 := by
      have := V.str.inj (of_decide_eq_true c3)
      rw [s0] at this
      have := txtOf_inj (a := [c]) (b := [48]) this
      simpa using this
    refine ⟨_, rfl, rfl, _, rfl, ite2 (fun c4 => ?_) (fun c4 => ?_)⟩
    · obtain ⟨j1, j2, j3⟩ := join3_ok (a := "the number ") (b := txtOf w) (c := " has a nought ahead") (by decide +kernel) (by rw [txtOf_len]; exact Nat.le_trans hlen (by decide)) (by decide +kernel)
      refine ⟨_, rfl, j1, _, rfl, _, rfl, hz, _, rfl, j2, _, rfl, j3, j3, (by show 1 ≤ sizeLine; decide), bad fun z => ?_⟩
      have := z (by rw [hw, e48]; rfl)
      rw [this] at c4
      have c5 : ¬ tokV (.figs [48]) = V.str (Str.ofString "0") := by simpa using c4
      exact c5 (by rw [s0]; rfl)
    · have c5 : tokV (.figs w) = V.str (Str.ofString "0") := by simpa using c4
      have e0 : w = [48] := by
        have := V.str.inj c5
        rw [s0] at this
        exact txtOf_inj this
      exact ⟨_, rfl, w, rfl, ok.1, ok.2, hfl w rfl, good fun _ => e0⟩
  · refine iteF ?_
    refine ⟨_, rfl, w, rfl, ok.1, ok.2, hfl w rfl, good fun z => ?_⟩
    rw [hw] at z
    have : c = 48 := by simpa using z
    subst this
    exact absurd (decide_eq_true (by rw [s0]; rfl)) c3
end
end K05

namespace K05
open PySem L2 Fb PyProof.Rows
seal L2.PE L2.PT L2.PW L2.PA L2.PS L2.PSs L2.PC L2.PG L2.PGs L2.PI L2.PO Fb.PJ
noncomputable def clsBody (s : Stmt) : List Stmt := match s with
  | .ClassDef _ _ _ b _ _ _ _ _ _ _ => b
  | _ => []
noncomputable def meth (i : Nat) : Stmt := (clsBody (top 22)).getD i (.Pass ⟨0, 0, 0, 0⟩)
noncomputable abbrev sInit : Stmt := meth 0
noncomputable abbrev sTake : Stmt := meth 1
noncomputable abbrev sBegin : Stmt := meth 2
noncomputable abbrev sClose : Stmt := meth 3
noncomputable abbrev sSign : Stmt := meth 4
noncomputable abbrev sTLeaf : Stmt := meth 5
noncomputable abbrev sRWhole : Stmt := meth 6
noncomputable abbrev sDue : Stmt := meth 7
noncomputable abbrev sThere : Stmt := meth 8
noncomputable abbrev sAhead : Stmt := meth 9
noncomputable abbrev sPutAll : Stmt := meth 10
noncomputable abbrev sPut : Stmt := meth 11
/-- what the reader's class leans on of the text -/
structure TxR (K : PySem.W.Frag) (mg : Str → Option Value) (C CL : Addr) : Prop where
  cl : Cls K C
  nR : NoAttr K C "rows"
  nP : NoAttr K C "parts"
  nW : NoAttr K C "waiting"
  nD : NoAttr K C "part_due"
  xL : ExcCls K mg "NoLine" CL
section
variable {P : Program} {w : World} {K : PySem.W.Frag} {mg : Str → Option Value} {base : Heap} {C CL : Addr} {rs : List Row}
noncomputable abbrev ps1 : List Str := ["self"]
noncomputable abbrev psT : List Str := ["self", "token"]
/-! ### check_part_is_due, check_part_is_there -/
noncomputable def spDue (C CL : Addr) (rs : List Row) : Sp := fun vs H Q E => ∃ (r dx d pa wa : Addr) (us : List V) (ws : List Str) (due : Bool) (tk : Str), vs = [.ref r, .str tk] ∧ Raw C rs H r dx d pa wa us ws due ∧ (reprText tk).length ≤ 300000 ∧ (due = true → Q .non H) ∧ (due = false → E (.ref CL) none H)
theorem scDue : FnScope psT psT (defScope sDue) := ⟨rfl, rfl, rfl, by decide +kernel, rfl, by decide +kernel, by decide +kernel⟩
theorem ok_due {f : Addr} {fd : FuncData} (F : Fun K "check_part_is_due" "Reader.check_part_is_due" sDue f fd) (T : TxR K mg C CL) : FnOk P w K mg base (CX1 P w) 1 f fd psT (spDue C CL rs) := by
  refine Fun.okX F scDue (fun vs H Q E h => ?_) (fun cdv A outer s H vs Q E hr h => ?_)
  · obtain ⟨r, dx, d, pa, wa, us, ws, due, tk, rfl, _⟩ := h; rfl
  obtain ⟨r, dx, d, pa, wa, us, ws, due, tk, rfl, R, hl, q1, q2⟩ := h
  have hm : Mades (cxOf (CX1 P w) P w K mg base psT "Reader.check_part_is_due" (defScope sDue) f cdv A outer s H E) CL (fun _ => E) := fun pins σ H s e h' vs I hx hE => passes_made I hx hE
  refine ⟨_, pss_one (ps_if (pt_not (pt_truth (pe_fld (pv 0) rfl) (fun _ => rfl))) (pss_one (ps_raise rfl T.xL rfl hm (pa_cons (pe_joined (pj_cons pe_str (pj_cons (pe_fmtR (pv 1)) pj_nil))) pa_nil))) pss_nil), ?_⟩
  refine ⟨_, rfl, r, C, dx, _, _, rfl, R.ins, T.cl, T.nD, rfl, due, rfl, ?_⟩
  cases due with
  | true => exact iteF (q1 rfl)
  | false =>
    refine iteT ?_
    obtain ⟨j1, j2, j3⟩ := join3_ok (a := "no sign stands ahead of ") (b := reprText tk) (c := Str.empty) (by decide +kernel) hl (by decide +kernel)
    exact ⟨_, rfl, j1, _, rfl, _, rfl, Nat.le_trans hl (by decide), _, rfl, j2, j2, (by show 1 ≤ sizeLine; decide), q2 rfl⟩
noncomputable def spThere (C CL : Addr) (rs : List Row) : Sp := fun vs H Q E => ∃ (r dx d pa wa : Addr) (us : List V) (ws : List Str) (due : Bool), vs = [.ref r] ∧ Raw C rs H r dx d pa wa us ws due ∧ (due = false → Q .non H) ∧ (due = true → E (.ref CL) none H)
theorem scThere : FnScope ps1 ps1 (defScope sThere) := ⟨rfl, rfl, rfl, by decide +kernel, rfl, by decide +kernel, by decide +kernel⟩
theorem ok_there {f : Addr} {fd : FuncData} (F : Fun K "check_part_is_there" "Reader.check_part_is_there" sThere f fd) (T : TxR K mg C CL) : FnOk P w K mg base (CX1 P w) 1 f fd ps1 (spThere C CL rs) := by
  refine Fun.okX F scThere (fun vs H Q E h => ?_) (fun cdv A outer s H vs Q E hr h => ?_)
  · obtain ⟨r, dx, d, pa, wa, us, ws, due, rfl, _⟩ := h; rfl
  obtain ⟨r, dx, d, pa, wa, us, ws, due, rfl, R, q1, q2⟩ := h
  have hm : Mades (cxOf (CX1 P w) P w K mg base ps1 "Reader.check_part_is_there" (defScope sThere) f cdv A outer s H E) CL (fun _ => E) := fun pins σ H s e h' vs I hx hE => passes_made I hx hE
  refine ⟨_, pss_one (ps_if (pt_truth (pe_fld (pv 0) rfl) (fun _ => rfl)) (pss_one (ps_raise rfl T.xL rfl hm (pa_cons pe_str pa_nil))) pss_nil), ?_⟩
  refine ⟨_, rfl, r, C, dx, _, _, rfl, R.ins, T.cl, T.nD, rfl, due, rfl, ?_⟩
  cases due with
  | true => exact iteT ⟨(by show 1 ≤ sizeLine; decide), q2 rfl⟩
  | false => exact iteF (q1 rfl)

/-! ### put_together -/
noncomputable def spPut (C : Addr) (rs : List Row) : Sp := fun vs H Q _ => ∃ (r dx d pa wa : Addr) (s : Str) (l b : BT) (st : List Fr), vs = [.ref r] ∧ RsAt C rs H r dx d pa wa ⟨.op s l :: st, some b⟩ ∧ st.length ≤ 30000 ∧
  ∀ H', ButL [r, pa, wa] H H' → RsAt C rs H' r dx d pa wa ⟨st, some (.node s l b)⟩ → Q .non H'
noncomputable abbrev nPut : List Str := ["self", "sign", "right", "left"]
theorem scPut : FnScope nPut ps1 (defScope sPut) := ⟨rfl, rfl, rfl, by decide +kernel, rfl, by decide +kernel, by decide +kernel⟩
theorem ok_put {f : Addr} {fd : FuncData} (F : Fun K "put_together" "Reader.put_together" sPut f fd) (T : TxR K mg C CL) : FnOk P w K mg base CX0 1 f fd ps1 (spPut C rs) := by
  refine F.ok scPut (fun vs H Q E h => ?_) (fun cdv A outer s H vs Q E hr h => ?_)
  · obtain ⟨r, dx, d, pa, wa, sg, l, b, st, rfl, _⟩ := h; rfl
  obtain ⟨r, dx, d, pa, wa, sg, l, b, st, rfl, ⟨us, R, hp⟩, hst, q⟩ := h
  have nd := scPut.nd
  refine ⟨_, pss_cons (ps_set (i := 1) nd rfl (Or.inl rfl) (pe_bm0 PySem.F.plainAttrs_list PySem.F.slot_list_pop PySem.F.type_list_pop mt_pop (pe_fld (pv 0) rfl)))
    (pss_cons (ps_set (i := 2) nd rfl (Or.inl rfl) (pe_bm0 PySem.F.plainAttrs_list PySem.F.slot_list_pop PySem.F.type_list_pop mt_pop (pe_fld (pv 0) rfl)))
    (pss_cons (ps_set (i := 3) nd rfl (Or.inl rfl) (pe_bm0 PySem.F.plainAttrs_list PySem.F.slot_list_pop PySem.F.type_list_pop mt_pop (pe_fld (pv 0) rfl)))
    (pss_one (ps_expr (pe_bm PySem.F.plainAttrs_list PySem.F.slot_list_append PySem.F.type_list_append mt_append (pe_fld (pv 0) rfl) (pa_cons (pe_tup (pa_cons (pv 1) (pa_cons (pv 3) (pa_cons (pv 2) pa_nil)))) pa_nil)))))), ?_⟩
  -- sign
  have ew : (waits (.op sg l :: st)).map V.str = (waits st).map V.str ++ [.str sg] := by show (waits st ++ [sg]).map V.str = _; rw [List.map_append]; rfl
  have hw := R.wai
  rw [show (MS.mk (.op sg l :: st) (some b)).stk = .op sg l :: st from rfl, ew] at hw
  refine ⟨_, rfl, r, C, dx, _, _, rfl, R.ins, T.cl, T.nW, rfl, .inl ⟨rfl, _, SqL.of hw⟩, wa, _, .str sg, rfl, rfl, hw, last_snoc _ _, ?_⟩
  rw [List.dropLast_concat]
  have R1 := R.setW (waits st)
  have B1 := (ButL.refl [r, pa, wa] H).put (p := wa) (by simp) (.lst ((waits st).map V.str))
  have hp1 := PT2.keep (R.tups B1) hp
  generalize upd H wa (.lst ((waits st).map V.str)) = H1 at R1 B1 hp1 ⊢
  -- the two parts
  have hp1' : Paired (PT2 H1) us (lefts st ++ [l, b]) := by
    have e : lefts (.op sg l :: st) ++ optL (some b) = lefts st ++ [l, b] := by show (lefts st ++ [l]) ++ [b] = _; simp
    exact e ▸ hp1
  obtain ⟨us', vl, vb, rfl, hp2, hl, hb⟩ : ∃ us' vl vb, us = us' ++ [vl, vb] ∧ Paired (PT2 H1) us' (lefts st) ∧ TreeAt H1 vl l.erase ∧ TreeAt H1 vb b.erase := by
    have := Pr.flip2 hp1'
    exact this
  have h1 := R1.par
  have e1 : us' ++ [vl, vb] = (us' ++ [vl]) ++ [vb] := by simp
  rw [e1] at h1
  refine ⟨_, rfl, r, C, dx, _, _, rfl, R1.ins, T.cl, T.nP, rfl, .inl ⟨rfl, _, SqL.of h1⟩, pa, _, vb, rfl, rfl, h1, last_snoc _ _, ?_⟩
  rw [List.dropLast_concat]
  have R2 := R1.setP (us' ++ [vl])
  have B2 := B1.put (p := pa) (by simp) (.lst (us' ++ [vl]))
  have B12 := (ButL.refl [r, pa, wa] H1).put (p := pa) (by simp) (.lst (us' ++ [vl]))
  have hp3 := PT2.keep (R1.tups B12) hp2
  have hl3 := hl.keep (R1.tups B12)
  have hb3 := hb.keep (R1.tups B12)
  generalize upd H1 pa (.lst (us' ++ [vl])) = H2 at R2 B2 hp3 hl3 hb3 ⊢
  refine ⟨_, rfl, r, C, dx, _, _, rfl, R2.ins, T.cl, T.nP, rfl, .inl ⟨rfl, _, SqL.of R2.par⟩, pa, _, vl, rfl, rfl, R2.par, last_snoc _ _, ?_⟩
  rw [List.dropLast_concat]
  have R3 := R2.setP us'
  have B3 := B2.put (p := pa) (by simp) (.lst us')
  have B23 := (ButL.refl [r, pa, wa] H2).put (p := pa) (by simp) (.lst us')
  have hp4 := PT2.keep (R2.tups B23) hp3
  have hl4 := hl3.keep (R2.tups B23)
  have hb4 := hb3.keep (R2.tups B23)
  generalize upd H2 pa (.lst us') = H3 at R3 B3 hp4 hl4 hb4 ⊢
  -- the new one
  refine ⟨_, rfl, r, C, dx, _, _, rfl, R3.ins, T.cl, T.nP, rfl, .inl ⟨rfl, _, SqL.of R3.par⟩, _, rfl, _, rfl, _, rfl, (by show 3 ≤ sizeLine; decide), fun p hp0 => ?_⟩
  have R4 := R3.new hp0 (.tup [.str sg, vl, vb])
  have B4 := B3.new hp0 (.tup [.str sg, vl, vb])
  have B34 := (ButL.refl [r, pa, wa] H3).new hp0 (.tup [.str sg, vl, vb])
  have hp5 := PT2.keep (R3.tups B34) hp4
  have hl5 := hl4.keep (R3.tups B34)
  have hb5 := hb4.keep (R3.tups B34)
  have hn : upd H3 p (.tup [.str sg, vl, vb]) p = some (.tup [.str sg, vl, vb]) := upd_same
  generalize upd H3 p (.tup [.str sg, vl, vb]) = H4 at R4 B4 hp5 hl5 hb5 hn ⊢
  have hlen : us'.length < sizeLine := by
    have := Pr.length hp5
    have := lefts_len st
    exact big20' (by omega)
  refine ⟨pa, us', .ref p, rfl, rfl, R4.par, hlen, ?_⟩
  have R5 := R4.setP (us' ++ [.ref p])
  have B45 := (ButL.refl [r, pa, wa] H4).put (p := pa) (by simp) (.lst (us' ++ [.ref p]))
  refine q _ (B4.put (by simp) _) ⟨us' ++ [.ref p], R5, Pr.append (PT2.keep (R4.tups B45) hp5) (.cons ?_ .nil)⟩
  exact ⟨p, vl, vb, rfl, R4.tups B45 _ _ hn, hl5.keep (R4.tups B45), hb5.keep (R4.tups B45)⟩
end
end K05

namespace K05
open PySem L2 Fb PyProof.Rows
seal L2.PE L2.PT L2.PW L2.PA L2.PS L2.PSs L2.PC L2.PG L2.PGs L2.PI L2.PO Fb.PJ
section
variable {P : Program} {w : World} {K : PySem.W.Frag} {mg : Str → Option Value} {base : Heap} {C CL : Addr} {rs : List Row}
theorem waits_last {f : Fr} {st : List Fr} : (waits (f :: st)).map V.str = (waits st).map V.str ++ [.str f.nm] := by show (waits st ++ [f.nm]).map V.str = _; rw [List.map_append]; rfl
/-! ### put_all_together -/
noncomputable def spPutAll (C : Addr) (rs : List Row) : Sp := fun vs H Q _ => ∃ (r dx d pa wa : Addr) (b : BT) (st : List Fr), vs = [.ref r] ∧ RsAt C rs H r dx d pa wa ⟨st, some b⟩ ∧ StkOk rs st ∧ Fine rs ∧ st.length ≤ 30000 ∧
  ∀ H', ButL [r, pa, wa] H H' → RsAt C rs H' r dx d pa wa ⟨(redA st b).1, some (redA st b).2⟩ → Q .non H'
theorem scPutAll : FnScope ps1 ps1 (defScope sPutAll) := ⟨rfl, rfl, rfl, by decide +kernel, rfl, by decide +kernel, by decide +kernel⟩
noncomputable def WAll (C : Addr) (rs : List Row) (r dx d pa wa : Addr) (H : Hp) (F0 : List Fr × BT) (m : Nat) (σ : L2.St) (H' : Hp) : Prop := ∃ (st : List Fr) (b : BT), σ = [some (.ref r)] ∧ ButL [r, pa, wa] H H' ∧ RsAt C rs H' r dx d pa wa ⟨st, some b⟩ ∧ StkOk rs st ∧ st.length ≤ 30000 ∧ redA st b = F0 ∧ m = st.length
theorem ok_putAll {f : Addr} {fd : FuncData} (F : Fun K "put_all_together" "Reader.put_all_together" sPutAll f fd) (T : TxR K mg C CL) (cP : MCal P w K mg base CX0 1 C "put_together" ps1 (spPut C rs)) : FnOk P w K mg base CX0 2 f fd ps1 (spPutAll C rs) := by
  refine F.ok scPutAll (fun vs H Q E h => ?_) (fun cdv A outer s H vs Q E hr h => ?_)
  · obtain ⟨r, dx, d, pa, wa, b, st, rfl, _⟩ := h; rfl
  obtain ⟨r, dx, d, pa, wa, b, st, rfl, R, hok, hf, hst, q⟩ := h
  refine ⟨_, pss_one (ps_while PassesOwn.never (PW.pt (pw_and (pt_truth (pe_fld (pv 0) rfl) (fun _ => rfl)) (pw_and1 (pt_cmpR op_ne (pe_ix ix_list (pe_fld (pv 0) rfl) (pe_un un_neg pe_int) (fun _ _ => rfl)) pe_str (nomark _)))))
    (pss_one (ps_expr (pe_mcal0 (pv 0) T.cl cP hr pass0)))), ?_⟩
  refine ⟨WAll C rs r dx d pa wa H (redA st b), ⟨_, st, b, rfl, ButL.refl _ _, R, hok, hst, rfl, rfl⟩, ?_⟩
  rintro m σ H' ⟨st', b', rfl, B, ⟨us, R', hp⟩, hok', hst', e0, rfl⟩
  have hw := R'.wai
  refine ⟨_, rfl, r, C, dx, _, _, rfl, R'.ins, T.cl, T.nW, rfl, _, .inl ⟨_, SqL.of hw, rfl⟩, ?_⟩
  cases st' with
  | nil =>
    refine iteF (iteF ?_)
    have e1 : redA st b = ([], b') := e0.symm
    rw [e1] at q
    exact q H' B ⟨us, R', hp⟩
  | cons fr st' =>
    have hw2 : H' wa = some (.lst ((waits st').map V.str ++ [.str fr.nm])) := by
      have := hw
      rw [show (MS.mk (fr :: st') (some b')).stk = fr :: st' from rfl, waits_last] at this
      exact this
    have et : (!((waits (MS.mk (fr :: st') (some b')).stk).map V.str).isEmpty) = true := by
      rw [show (MS.mk (fr :: st') (some b')).stk = fr :: st' from rfl, waits_last]; simp
    rw [et]
    refine iteT ?_
    refine ⟨_, rfl, r, C, dx, _, _, rfl, R'.ins, T.cl, T.nW, rfl, _, rfl, _, _, _, _, rfl, rfl, SqL.of hw2, atI_last _ _, rfl, _, rfl, ?_⟩
    cases fr with
    | par =>
      refine iteNS rfl ?_
      have e1 : redA st b = (.par :: st', b') := e0.symm
      rw [e1] at q
      exact q H' B ⟨us, R', hp⟩
    | op sg l =>
      have nb := (sg_ne_br hf hok'.1).1
      have ec : (!decide (V.str (Fr.op sg l).nm = V.str (Str.ofString "("))) = true := by
        rw [decide_eq_false (p := V.str (Fr.op sg l).nm = V.str (Str.ofString "(")) (fun z => nb (V.str.inj z))]; rfl
      rw [ec]
      refine iteT ?_
      refine ⟨fun σ' H2 => ∃ m', m' < (Fr.op sg l :: st').length ∧ WAll C rs r dx d pa wa H (redA st b) m' σ' H2, fun _ _ z => z, ?_⟩
      refine ⟨_, rfl, r, dx, _, rfl, R'.ins, rfl, r, dx, d, pa, wa, sg, l, b', st', rfl, ⟨us, R', hp⟩, by simp at hst'; omega, fun H2 B2 R2 => ?_⟩
      refine ⟨st'.length, by simp, st', .node sg l b', rfl, B.trans B2, R2, hok'.2.2.2.2, by simp at hst'; omega, ?_, rfl⟩
      rw [← e0]; rfl

/-! ### goes_ahead -/
noncomputable abbrev psAhead : List Str := ["self", "earlier", "later"]
noncomputable abbrev nAhead : List Str := ["self", "earlier", "later", "rank", "side", "later_rank"]
noncomputable def spAhead (C CL : Addr) (rs : List Row) : Sp := fun vs H Q E => ∃ (r dx d pa wa : Addr) (us : List V) (ws : List Str) (due : Bool) (e s : Str), vs = [.ref r, .str e, .str s] ∧ Raw C rs H r dx d pa wa us ws due ∧ Fine rs ∧ s ∈ signsOf rs ∧
  ((e = (Str.ofString "(") ∧ Q (.bl false) H) ∨ (e ∈ signsOf rs ∧ (∀ b, ahead rs e s = some b → Q (.bl b) H) ∧ (ahead rs e s = none → E (.ref CL) none H)))
theorem scAhead : FnScope nAhead psAhead (defScope sAhead) := ⟨rfl, rfl, rfl, by decide +kernel, rfl, by decide +kernel, by decide +kernel⟩
theorem sign_repr {rs : List Row} (hf : Fine rs) {s : Str} (h : s ∈ signsOf rs) : (reprText s).length ≤ 100 := by
  obtain ⟨r, hr, rfl⟩ := List.mem_map.mp h
  have all : ∀ s ∈ signMenu, (reprText s).length ≤ 100 := by decide +kernel
  exact all _ (hf.sign r hr)
theorem join4_ok {a b c d : Str} (ha : a.length ≤ 1000) (hb : b.length ≤ 1000) (hc : c.length ≤ 1000) (hd : d.length ≤ 1000) : (Str.empty ++ a).length ≤ sizeLine ∧ (Str.empty ++ a ++ b).length ≤ sizeLine ∧ (Str.empty ++ a ++ b ++ c).length ≤ sizeLine ∧ (Str.empty ++ a ++ b ++ c ++ d).length ≤ sizeLine := by
  have e : Str.empty.length = 0 := rfl
  have z : ∀ n : Nat, n ≤ 1000000 → n ≤ sizeLine := fun n h => Nat.le_trans h (by decide)
  refine ⟨?_, ?_, ?_, ?_⟩
  · rw [strLen_append, e]; exact z _ (by omega)
  · rw [strLen_append, strLen_append, e]; exact z _ (by omega)
  · rw [strLen_append, strLen_append, strLen_append, e]; exact z _ (by omega)
  · rw [strLen_append, strLen_append, strLen_append, strLen_append, e]; exact z _ (by omega)
theorem ok_ahead {f : Addr} {fd : FuncData} (F : Fun K "goes_ahead" "Reader.goes_ahead" sAhead f fd) (T : TxR K mg C CL) : FnOk P w K mg base (CX1 P w) 1 f fd psAhead (spAhead C CL rs) := by
  refine Fun.okX F scAhead (fun vs H Q E h => ?_) (fun cdv A outer s H vs Q E hr h => ?_)
  · obtain ⟨r, dx, d, pa, wa, us, ws, due, e, s, rfl, _⟩ := h; rfl
  obtain ⟨r, dx, d, pa, wa, us, ws, due, e, sg, rfl, R, hf, hsg, hq⟩ := h
  have nd := scAhead.nd
  have hu := hu_of hr
  have hm : Mades (cxOf (CX1 P w) P w K mg base nAhead "Reader.goes_ahead" (defScope sAhead) f cdv A outer s H E) CL (fun _ => E) := fun pins σ H s e h' vs I hx hE => passes_made I hx hE
  refine ⟨_, pss_cons (ps_if (pt_cmpR op_eq (pv 1) pe_str (nomark _)) (pss_one (ps_ret pe_bl)) pss_nil)
    (pss_cons (ps_asg (pe_dget hu (pe_fld (pv 0) rfl) (pv 1) (fun _ _ => rfl)) (pg_tup rfl (pgs_cons (pg_name (i := 3) nd rfl (Or.inl rfl)) (pgs_cons (pg_name (i := 4) nd rfl (Or.inl rfl)) pgs_nil))))
    (pss_cons (ps_set (i := 5) nd rfl (Or.inl rfl) (pe_ix ix_tup (pe_dget hu (pe_fld (pv 0) rfl) (pv 2) (fun _ _ => rfl)) pe_int (fun _ _ => rfl)))
    (pss_cons (ps_if (pt_cmpR op_ne (pv 3) (pv 5) (nomark _)) (pss_one (ps_ret (pe_cmpR op_gt (pv 3) (pv 5) (nomark _)))) pss_nil)
    (pss_cons (ps_if (pt_cmpR op_eq (pv 4) pe_str (nomark _)) (pss_one (ps_raise rfl T.xL rfl hm (pa_cons (pe_joined (pj_cons (pe_fmtR (pv 1)) (pj_cons pe_str (pj_cons (pe_fmtR (pv 2)) (pj_cons pe_str pj_nil))))) pa_nil))) pss_nil)
    (pss_one (ps_ret (pe_cmpR op_eq (pv 4) pe_str (nomark _)))))))), ?_⟩
  rcases hq with ⟨rfl, q⟩ | ⟨he, q1, q2⟩
  · refine ⟨_, rfl, rfl, _, rfl, ?_⟩
    rw [decide_eq_true rfl]
    exact iteT q
  · have nb := (sg_ne_br hf he).1
    refine ⟨_, rfl, rfl, _, rfl, ?_⟩
    rw [decide_eq_false (fun z => nb (V.str.inj z))]
    refine iteF ?_
    obtain ⟨kvs, hk, hrow⟩ := R.rows
    obtain ⟨a1, v1, t1⟩ := (hrow e).1 he
    obtain ⟨a2, v2, t2⟩ := (hrow sg).1 hsg
    have g1 : DGet H d (.str e) (some (.ref a1)) := by rw [← v1]; exact DGet.k (k := Sum.inr e) hk
    have g2 : DGet H d (.str sg) (some (.ref a2)) := by rw [← v2]; exact DGet.k (k := Sum.inr sg) hk
    refine ⟨_, rfl, r, C, dx, _, _, rfl, R.ins, T.cl, T.nR, rfl, _, rfl, d, _, rfl, g1, a1, _, rfl, SqT.of t1, rfl, _, _, rfl, _, _, rfl, rfl, ?_⟩
    refine ⟨_, rfl, r, C, dx, _, _, rfl, R.ins, T.cl, T.nR, rfl, _, rfl, d, _, rfl, g2, a2, _, _, _, rfl, rfl, SqT.of t2, rfl, ?_⟩
    have ea : ahead rs e sg = if rankOf rs e = rankOf rs sg then (if sideOf rs e = "none" then none else some (decide (sideOf rs e = "left"))) else some (decide (rankOf rs sg < rankOf rs e)) := rfl
    refine ⟨_, rfl, _, rfl, rfl, _, rfl, ?_⟩
    refine ite2 (fun c => ?_) (fun c => ?_)
    · have c' : ¬ rankOf rs e = rankOf rs sg := fun z => by rw [z] at c; simp at c
      rw [if_neg c'] at ea
      exact ⟨_, rfl, _, rfl, _, _, rfl, rfl, q1 _ ea⟩
    · have c' : rankOf rs e = rankOf rs sg := by
        have : decide (V.int (rankOf rs e) = V.int (rankOf rs sg)) = true := by simpa using c
        exact V.int.inj (of_decide_eq_true this)
      rw [if_pos c'] at ea
      refine ⟨_, rfl, rfl, _, rfl, ite2 (fun c2 => ?_) (fun c2 => ?_)⟩
      · have c3 : sideOf rs e = "none" := V.str.inj (of_decide_eq_true c2)
        rw [if_pos c3] at ea
        obtain ⟨j1, j2, j3, j4⟩ := join4_ok (a := reprText e) (b := " and ") (c := reprText sg) (d := " can't stand beside one another") (Nat.le_trans (sign_repr hf he) (by decide)) (by decide +kernel) (Nat.le_trans (sign_repr hf hsg) (by decide)) (by decide +kernel)
        exact ⟨_, rfl, _, rfl, Nat.le_trans (sign_repr hf he) (by decide), _, rfl, j1, _, rfl, j2, _, rfl, _, rfl, Nat.le_trans (sign_repr hf hsg) (by decide), _, rfl, j3, _, rfl, j4, j4, (by show 1 ≤ sizeLine; decide), q2 ea⟩
      · have c3 : ¬ sideOf rs e = "none" := fun z => c2 (by rw [z]; exact decide_eq_true rfl)
        rw [if_neg c3] at ea
        refine ⟨_, rfl, rfl, ?_⟩
        have e2 : decide (V.str (sideOf rs e) = V.str (Str.ofString "left")) = decide (sideOf rs e = "left") := decide_eq_decide.mpr ⟨fun z => V.str.inj z, fun z => by rw [z]⟩
        rw [e2]
        exact q1 _ ea
end
end K05

namespace K05
open PySem L2 Fb PyProof.Rows
seal L2.PE L2.PT L2.PW L2.PA L2.PS L2.PSs L2.PC L2.PG L2.PGs L2.PI L2.PO Fb.PJ
section
variable {P : Program} {w : World} {K : PySem.W.Frag} {mg : Str → Option Value} {base : Heap} {C CL : Addr} {rs : List Row}
/-- a step of the reader -/
noncomputable def Stp (C CL : Addr) (rs : List Row) (r dx d pa wa : Addr) (o : Option MS) (H : Hp) (Q : VK) (E : XK) : Prop :=
  (∀ m', o = some m' → ∀ H', ButL [r, pa, wa] H H' → RsAt C rs H' r dx d pa wa m' → Q .non H') ∧ (o = none → ∀ H', ButL [r, pa, wa] H H' → E (.ref CL) none H')
/-! ### begin_brackets -/
noncomputable def spBegin (C CL : Addr) (rs : List Row) : Sp := fun vs H Q E => ∃ (r dx d pa wa : Addr) (m : MS), vs = [.ref r] ∧ RsAt C rs H r dx d pa wa m ∧ m.stk.length ≤ 29000 ∧ Stp C CL rs r dx d pa wa (openM m) H Q E
theorem scBegin : FnScope ps1 ps1 (defScope sBegin) := ⟨rfl, rfl, rfl, by decide +kernel, rfl, by decide +kernel, by decide +kernel⟩
theorem ok_begin {f : Addr} {fd : FuncData} (F : Fun K "begin_brackets" "Reader.begin_brackets" sBegin f fd) (T : TxR K mg C CL) (cD : MCal P w K mg base (CX1 P w) 1 C "check_part_is_due" psT (spDue C CL rs)) : FnOk P w K mg base (CX1 P w) 2 f fd ps1 (spBegin C CL rs) := by
  refine Fun.okX F scBegin (fun vs H Q E h => ?_) (fun cdv A outer s H vs Q E hr h => ?_)
  · obtain ⟨r, dx, d, pa, wa, m, rfl, _⟩ := h; rfl
  obtain ⟨r, dx, d, pa, wa, ⟨st, cur⟩, rfl, ⟨us, R, hp⟩, hst, q1, q2⟩ := h
  refine ⟨_, pss_cons (ps_expr (pe_mcal (pv 0) T.cl cD hr passes_on (pa_cons pe_str pa_nil)))
    (pss_one (ps_expr (pe_bm PySem.F.plainAttrs_list PySem.F.slot_list_append PySem.F.type_list_append mt_append (pe_fld (pv 0) rfl) (pa_cons pe_str pa_nil)))), ?_⟩
  refine ⟨_, rfl, r, dx, _, rfl, R.ins, rfl, r, dx, d, pa, wa, us, _, _, _, rfl, R, (by decide +kernel), fun e => ?_, fun e => ?_⟩
  · cases cur with
    | some b => cases e
    | none =>
      refine ⟨_, rfl, r, C, dx, _, _, rfl, R.ins, T.cl, T.nW, rfl, .inl ⟨rfl, _, SqL.of R.wai⟩, wa, _, _, rfl, rfl, R.wai, ?_, ?_⟩
      · rw [List.length_map, waits_len]; exact big20' (Nat.le_trans hst (by decide))
      · have R1 := R.setW (waits (.par :: st))
        have B1 := (ButL.refl [r, pa, wa] H).put (p := wa) (by simp) (.lst ((waits (.par :: st)).map V.str))
        have ew : (waits (.par :: st)).map V.str = (waits st).map V.str ++ [.str (Str.ofString "(")] := waits_last
        have := q1 ⟨.par :: st, none⟩ rfl _ B1 ⟨us, R1, PT2.keep (R.tups B1) hp⟩
        rw [ew] at this
        exact this
  · cases cur with
    | some b => exact q2 rfl H (ButL.refl _ _)
    | none => cases e

/-! ### end_brackets -/
noncomputable def spClose (C CL : Addr) (rs : List Row) : Sp := fun vs H Q E => ∃ (r dx d pa wa : Addr) (m : MS), vs = [.ref r] ∧ RsAt C rs H r dx d pa wa m ∧ StkOk rs m.stk ∧ Fine rs ∧ m.stk.length ≤ 29000 ∧ Stp C CL rs r dx d pa wa (closeM m) H Q E
theorem scClose : FnScope ps1 ps1 (defScope sClose) := ⟨rfl, rfl, rfl, by decide +kernel, rfl, by decide +kernel, by decide +kernel⟩
theorem redA_cases (st : List Fr) (b : BT) : ∃ b', redA st b = ([], b') ∨ ∃ r, redA st b = (.par :: r, b') := by
  induction st generalizing b with
  | nil => exact ⟨b, .inl rfl⟩
  | cons f r ih => cases f with
    | par => exact ⟨b, .inr ⟨r, rfl⟩⟩
    | op s l => exact ih (.node s l b)
theorem ok_close {f : Addr} {fd : FuncData} (F : Fun K "end_brackets" "Reader.end_brackets" sClose f fd) (T : TxR K mg C CL) (cT : MCal P w K mg base (CX1 P w) 1 C "check_part_is_there" ps1 (spThere C CL rs)) (cA : MCal P w K mg base CX0 2 C "put_all_together" ps1 (spPutAll C rs)) :
    FnOk P w K mg base (CX1 P w) 3 f fd ps1 (spClose C CL rs) := by
  refine Fun.okX F scClose (fun vs H Q E h => ?_) (fun cdv A outer s H vs Q E hr h => ?_)
  · obtain ⟨r, dx, d, pa, wa, m, rfl, _⟩ := h; rfl
  obtain ⟨r, dx, d, pa, wa, ⟨st, cur⟩, rfl, ⟨us, R, hp⟩, hok, hf, hst, q1, q2⟩ := h
  have hm : Mades (cxOf (CX1 P w) P w K mg base ps1 "Reader.end_brackets" (defScope sClose) f cdv A outer s H E) CL (fun _ => E) := fun pins σ H s e h' vs I hx hE => passes_made I hx hE
  refine ⟨_, pss_cons (ps_expr (pe_mcal0 (pv 0) T.cl cT (hr.mono (by decide)) passes_on))
    (pss_cons (ps_expr (pe_mcal0 (pv 0) T.cl cA hr pass0))
    (pss_cons (ps_if (pt_not (pt_truth (pe_fld (pv 0) rfl) (fun _ => rfl))) (pss_one (ps_raise rfl T.xL rfl hm (pa_cons pe_str pa_nil))) pss_nil)
    (pss_one (ps_expr (pe_bm0 PySem.F.plainAttrs_list PySem.F.slot_list_pop PySem.F.type_list_pop mt_pop (pe_fld (pv 0) rfl)))))), ?_⟩
  refine ⟨_, rfl, r, dx, _, rfl, R.ins, rfl, r, dx, d, pa, wa, us, _, _, rfl, R, fun e => ?_, fun e => ?_⟩
  · cases cur with
    | none => cases e
    | some b =>
      refine ⟨_, rfl, r, dx, _, rfl, R.ins, rfl, r, dx, d, pa, wa, b, st, rfl, ⟨us, R, hp⟩, hok, hf, Nat.le_trans hst (by decide), fun H1 B1 R1 => ?_⟩
      obtain ⟨b', hb⟩ := redA_cases st b
      obtain ⟨us1, R1, hp1⟩ := R1.ex
      refine ⟨_, rfl, r, C, dx, _, _, rfl, R1.ins, T.cl, T.nW, rfl, _, .inl ⟨_, SqL.of R1.wai, rfl⟩, ?_⟩
      rcases hb with hb | ⟨st', hb⟩
      · rw [show (MS.mk (redA st b).1 (some (redA st b).2)).stk = [] by rw [hb]]
        refine iteT ⟨(by show 1 ≤ sizeLine; decide), q2 ?_ H1 B1⟩
        show closeM ⟨st, some b⟩ = none
        unfold closeM
        simp only
        rw [hb]
      · have e1 : redA st b = (.par :: st', b') := hb
        rw [e1] at R1 hp1 ⊢
        have hw : H1 wa = some (.lst ((waits st').map V.str ++ [.str (Str.ofString "(")])) := by
          have := R1.wai
          rw [show (MS.mk (.par :: st') (some b')).stk = .par :: st' from rfl, waits_last] at this
          exact this
        have et : (!((waits (MS.mk (.par :: st') (some b')).stk).map V.str).isEmpty) = true := by
          rw [show (MS.mk (.par :: st') (some b')).stk = .par :: st' from rfl, waits_last]; simp
        have et2 : (!(!((waits (MS.mk (Fr.par :: st', b').1 (some (Fr.par :: st', b').2)).stk).map V.str).isEmpty)) = false := by
          show (!(!((waits (MS.mk (.par :: st') (some b')).stk).map V.str).isEmpty)) = false
          rw [et]; rfl
        rw [et2]
        refine iteF ?_
        refine ⟨_, rfl, r, C, dx, _, _, rfl, R1.ins, T.cl, T.nW, rfl, .inl ⟨rfl, _, SqL.of hw⟩, wa, _, _, rfl, rfl, hw, last_snoc _ _, ?_⟩
        rw [List.dropLast_concat]
        have R2 := R1.setW (waits st')
        have B2 := B1.put (p := wa) (by simp) (.lst ((waits st').map V.str))
        have B12 := (ButL.refl [r, pa, wa] H1).put (p := wa) (by simp) (.lst ((waits st').map V.str))
        refine q1 ⟨st', some (.br b')⟩ ?_ _ B2 ⟨us1, R2, ?_⟩
        · show closeM ⟨st, some b⟩ = _
          unfold closeM
          simp only
          rw [hb]
        · have hp2 := PT2.keep (R1.tups B12) hp1
          have hp3 : Paired (PT2 (upd H1 wa (.lst ((waits st').map V.str)))) us1 (lefts st' ++ [b']) := hp2
          obtain ⟨xs', x, rfl, k1, k2⟩ := Pr.unsnocR hp3
          exact Pr.append k1 (.cons k2 .nil)
  · cases cur with
    | some b => cases e
    | none => exact q2 rfl H (ButL.refl _ _)

/-! ### take_sign -/
noncomputable abbrev psSign : List Str := ["self", "sign"]
noncomputable def spSign (C CL : Addr) (rs : List Row) : Sp := fun vs H Q E => ∃ (r dx d pa wa : Addr) (m : MS) (sg : Str), vs = [.ref r, .str sg] ∧ RsAt C rs H r dx d pa wa m ∧ StkOk rs m.stk ∧ Fine rs ∧ sg ∈ signsOf rs ∧ m.stk.length ≤ 29000 ∧ Stp C CL rs r dx d pa wa (signM rs m sg) H Q E
theorem scSign : FnScope psSign psSign (defScope sSign) := ⟨rfl, rfl, rfl, by decide +kernel, rfl, by decide +kernel, by decide +kernel⟩
noncomputable def WSign (C : Addr) (rs : List Row) (r dx d pa wa : Addr) (sg : Str) (H : Hp) (F0 : Option (List Fr × BT)) (m : Nat) (σ : L2.St) (H' : Hp) : Prop := ∃ (st : List Fr) (b : BT), σ = [some (.ref r), some (.str sg)] ∧ ButL [r, pa, wa] H H' ∧ RsAt C rs H' r dx d pa wa ⟨st, some b⟩ ∧ StkOk rs st ∧ st.length ≤ 29000 ∧ redS rs sg st b = F0 ∧ m = st.length
theorem ok_sign {f : Addr} {fd : FuncData} (F : Fun K "take_sign" "Reader.take_sign" sSign f fd) (T : TxR K mg C CL) (cT : MCal P w K mg base (CX1 P w) 1 C "check_part_is_there" ps1 (spThere C CL rs)) (cP : MCal P w K mg base CX0 1 C "put_together" ps1 (spPut C rs)) (cG : MCal P w K mg base (CX1 P w) 1 C "goes_ahead" psAhead (spAhead C CL rs)) :
    FnOk P w K mg base (CX1 P w) 2 f fd psSign (spSign C CL rs) := by
  refine Fun.okX F scSign (fun vs H Q E h => ?_) (fun cdv A outer s H vs Q E hr h => ?_)
  · obtain ⟨r, dx, d, pa, wa, m, sg, rfl, _⟩ := h; rfl
  obtain ⟨r, dx, d, pa, wa, ⟨st, cur⟩, sg, rfl, ⟨us, R, hp⟩, hok, hf, hsg, hst, q1, q2⟩ := h
  refine ⟨_, pss_cons (ps_expr (pe_mcal0 (pv 0) T.cl cT hr passes_on))
    (pss_cons (ps_while PassesOwn.leaving (PW.pt (pw_and (pt_truth (pe_fld (pv 0) rfl) (fun _ => rfl)) (pw_and1 (pt_val (pe_mcal (pv 0) T.cl cG hr passes_on (pa_cons (pe_ix ix_list (pe_fld (pv 0) rfl) (pe_un un_neg pe_int) (fun _ _ => rfl)) (pa_cons (pv 1) pa_nil)))))))
      (pss_one (ps_expr (pe_mcal0 (pv 0) T.cl cP hr pass0))))
    (pss_cons (ps_expr (pe_bm PySem.F.plainAttrs_list PySem.F.slot_list_append PySem.F.type_list_append mt_append (pe_fld (pv 0) rfl) (pa_cons (pv 1) pa_nil)))
    (pss_one (ps_fld (pv 0) pe_bl rfl)))), ?_⟩
  refine ⟨_, rfl, r, dx, _, rfl, R.ins, rfl, r, dx, d, pa, wa, us, _, _, rfl, R, fun e => ?_, fun e => ?_⟩
  rotate_left
  · cases cur with
    | some b => cases e
    | none => exact q2 rfl H (ButL.refl _ _)
  cases cur with
  | none => cases e
  | some b =>
    refine ⟨WSign C rs r dx d pa wa sg H (redS rs sg st b), ⟨_, st, b, rfl, ButL.refl _ _, ⟨us, R, hp⟩, hok, hst, rfl, rfl⟩, ?_⟩
    rintro m σ H' ⟨st', b', rfl, B, ⟨us', R', hp'⟩, hok', hst', e0, rfl⟩
    have hw := R'.wai
    have fin : redS rs sg st b = some (st', b') → (tSeq (tDrop (tBM K "list" rAppend (tFld K (tVar 0) "waiting") (tCons (tVar 1) tNil))) (sFld K (tVar 0) (tC (.bl true)) "part_due")) { nx := fun _ H' => Q .non H', rt := Q } [some (.ref r), some (.str sg)] H' := fun e1 => by
      have R1 := R'.setW (waits (.op sg b' :: st'))
      have ew : (waits (.op sg b' :: st')).map V.str = (waits st').map V.str ++ [.str sg] := waits_last
      rw [ew] at R1
      refine ⟨_, rfl, r, C, dx, _, _, rfl, R'.ins, T.cl, T.nW, rfl, .inl ⟨rfl, _, SqL.of hw⟩, _, rfl, wa, _, _, rfl, rfl, hw, ?_, _, rfl, r, C, dx, _, rfl, R1.ins, T.cl, T.nD, (by show 4 < 1000; decide), ?_⟩
      · rw [List.length_map, waits_len]; exact big20' (Nat.le_trans hst' (by decide))
      · have R2 := R1.setD true
        have B1 := B.put (p := wa) (by simp) (.lst ((waits st').map V.str ++ [.str sg]))
        have B2 := B1.put (p := r) (by simp) (.ins C dx (putF "part_due" (.bl true) (rdF d pa wa false)))
        have Ba := (ButL.refl [r, pa, wa] H').put (p := wa) (by simp) (.lst ((waits st').map V.str ++ [.str sg]))
        have Bb := Ba.put (p := r) (by simp) (.ins C dx (putF "part_due" (.bl true) (rdF d pa wa false)))
        refine q1 ⟨.op sg b' :: st', none⟩ ?_ _ B2 ⟨us', R2, ?_⟩
        · show signM rs ⟨st, some b⟩ sg = _
          unfold signM
          simp only
          rw [e1]
        · have hp3 := PT2.keep (R'.tups Bb) hp'
          have e3 : lefts (.op sg b' :: st') ++ optL none = lefts st' ++ optL (some b') := by show (lefts st' ++ [b']) ++ [] = _; simp [optL]
          rw [show (MS.mk (.op sg b' :: st') none).stk = .op sg b' :: st' from rfl, show (MS.mk (.op sg b' :: st') none).cur = none from rfl, e3]
          exact hp3
    refine ⟨_, rfl, r, C, dx, _, _, rfl, R'.ins, T.cl, T.nW, rfl, _, .inl ⟨_, SqL.of hw, rfl⟩, ?_⟩
    cases st' with
    | nil => exact iteF (iteF (fin e0.symm))
    | cons fr st' =>
      have hw2 : H' wa = some (.lst ((waits st').map V.str ++ [.str fr.nm])) := by
        have := hw
        rw [show (MS.mk (fr :: st') (some b')).stk = fr :: st' from rfl, waits_last] at this
        exact this
      have et : (!((waits (MS.mk (fr :: st') (some b')).stk).map V.str).isEmpty) = true := by
        rw [show (MS.mk (fr :: st') (some b')).stk = fr :: st' from rfl, waits_last]; simp
      rw [et]
      refine iteT ?_
      refine ⟨_, rfl, r, dx, _, rfl, R'.ins, rfl, _, rfl, r, C, dx, _, _, rfl, R'.ins, T.cl, T.nW, rfl, _, rfl, _, _, _, _, rfl, rfl, SqL.of hw2, atI_last _ _, _, rfl, r, dx, d, pa, wa, us', _, _, fr.nm, sg, rfl, R', hf, hsg, ?_⟩
      cases fr with
      | par => exact .inl ⟨rfl, _, rfl, iteF (fin e0.symm)⟩
      | op s l =>
        have e1 : redS rs sg (.op s l :: st') b' = match ahead rs s sg with
          | none => none
          | some true => redS rs sg st' (.node s l b')
          | some false => some (.op s l :: st', b') := rfl
        refine .inr ⟨hok'.1, fun k hk => ⟨_, rfl, ?_⟩, fun hk => ?_⟩
        · cases k with
          | false =>
            refine iteF (fin ?_)
            rw [show ahead rs s sg = _ from hk] at e1
            rw [← e0]; exact e1
          | true =>
            refine iteT ?_
            rw [show ahead rs s sg = _ from hk] at e1
            refine ⟨fun σ' H2 => ∃ m', m' < (Fr.op s l :: st').length ∧ WSign C rs r dx d pa wa sg H (redS rs sg st b) m' σ' H2, fun _ _ z => z, ?_⟩
            refine ⟨_, rfl, r, dx, _, rfl, R'.ins, rfl, r, dx, d, pa, wa, s, l, b', st', rfl, ⟨us', R', hp'⟩, by simp at hst'; omega, fun H2 B2 R2 => ?_⟩
            exact ⟨st'.length, by simp, st', .node s l b', rfl, B.trans B2, R2, hok'.2.2.2.2, by simp at hst'; omega, by rw [← e0]; exact e1.symm, rfl⟩
        · rw [show ahead rs s sg = _ from hk] at e1
          refine q2 ?_ H' B
          show signM rs ⟨st, some b⟩ sg = none
          unfold signM
          simp only
          rw [← e0, e1]
end
end K05

namespace K05
open PySem L2 Fb PyProof.Rows
seal L2.PE L2.PT L2.PW L2.PA L2.PS L2.PSs L2.PC L2.PG L2.PGs L2.PI L2.PO Fb.PJ
section
variable {P : Program} {w : World} {K : PySem.W.Frag} {mg : Str → Option Value} {base : Heap} {C CL : Addr} {rs : List Row}
/-- a sign of a line, as it is handed on -/
structure TokOk (t : Fb.Tok) : Prop where
  ok : LexOk t
  fl : ∀ w, t = .figs w → w.length ≤ 640
  len : (tokT t).length ≤ 20000
  asc : ∀ c ∈ tokT t, c < 128
/-! ### take_leaf -/
noncomputable abbrev nTLeaf : List Str := ["self", "token", "leaf"]
noncomputable def spTLeaf (C CL : Addr) (rs : List Row) : Sp := fun vs H Q E => ∃ (r dx d pa wa : Addr) (m : MS) (t : Fb.Tok), vs = [.ref r, tokV t] ∧ RsAt C rs H r dx d pa wa m ∧ TokOk t ∧ m.stk.length ≤ 29000 ∧ Stp C CL rs r dx d pa wa (leafM m t) H Q E
theorem scTLeaf : FnScope nTLeaf psT (defScope sTLeaf) := ⟨rfl, rfl, rfl, by decide +kernel, rfl, by decide +kernel, by decide +kernel⟩
theorem ok_tleaf {f : Addr} {fd : FuncData} (F : Fun K "take_leaf" "Reader.take_leaf" sTLeaf f fd) (T : TxR K mg C CL) (cL : Cal P w K mg base (CX1 P w) 1 "leaf_of" psLeaf (spLeaf CL)) (cD : MCal P w K mg base (CX1 P w) 1 C "check_part_is_due" psT (spDue C CL rs)) :
    FnOk P w K mg base (CX1 P w) 2 f fd psT (spTLeaf C CL rs) := by
  refine Fun.okX F scTLeaf (fun vs H Q E h => ?_) (fun cdv A outer s H vs Q E hr h => ?_)
  · obtain ⟨r, dx, d, pa, wa, m, t, rfl, _⟩ := h; rfl
  obtain ⟨r, dx, d, pa, wa, ⟨st, cur⟩, t, rfl, ⟨us, R, hp⟩, tk, hst, q1, q2⟩ := h
  have nd := scTLeaf.nd
  refine ⟨_, pss_cons (ps_set (i := 2) nd rfl (Or.inl rfl) (pe_cal cL hr rfl passes_on (pa_cons (pv 1) pa_nil)))
    (pss_cons (ps_expr (pe_mcal (pv 0) T.cl cD hr passes_on (pa_cons (pv 1) pa_nil)))
    (pss_cons (ps_expr (pe_bm PySem.F.plainAttrs_list PySem.F.slot_list_append PySem.F.type_list_append mt_append (pe_fld (pv 0) rfl) (pa_cons (pv 2) pa_nil)))
    (pss_one (ps_fld (pv 0) pe_bl rfl)))), ?_⟩
  refine ⟨_, rfl, t, rfl, tk.ok, tk.fl, tk.len, tk.asc, fun b hb v hv => ?_, fun hn => ?_⟩
  · refine ⟨_, rfl, r, dx, _, rfl, R.ins, rfl, _, rfl, r, dx, d, pa, wa, us, _, _, _, rfl, R, Nat.le_trans (repr_len tk.len tk.asc) (by decide), fun e => ?_, fun e => ?_⟩
    · cases cur with
      | some b' => cases e
      | none =>
        have R1 := R.setP (us ++ [v])
        refine ⟨_, rfl, r, C, dx, _, _, rfl, R.ins, T.cl, T.nP, rfl, .inl ⟨rfl, _, SqL.of R.par⟩, _, rfl, pa, us, v, rfl, rfl, R.par, ?_, ?_⟩
        · have h1 := Pr.length hp
          have h2 := lefts_len st
          have hst2 : st.length ≤ 29000 := hst
          have h3 : (lefts st ++ optL none).length = (lefts st).length := by simp [optL]
          exact big20' (by rw [h1]; show (lefts st ++ optL none).length ≤ _; rw [h3]; omega)
        · refine ⟨_, rfl, r, C, dx, _, rfl, R1.ins, T.cl, T.nD, (by show 4 < 1000; decide), ?_⟩
          have R2 := R1.setD false
          have B1 := (ButL.refl [r, pa, wa] H).put (p := pa) (by simp) (.lst (us ++ [v]))
          have B2 := B1.put (p := r) (by simp) (.ins C dx (putF "part_due" (.bl false) (rdF d pa wa true)))
          refine q1 ⟨st, some b⟩ ?_ _ B2 ⟨us ++ [v], R2, ?_⟩
          · show leafM ⟨st, none⟩ t = _
            unfold leafM
            rw [hb]
          · have hp' : Paired (PT2 H) us (lefts st) := by
              have e3 : lefts st ++ optL none = lefts st := by simp [optL]
              rw [show (MS.mk st none).stk = st from rfl, show (MS.mk st none).cur = none from rfl, e3] at hp
              exact hp
            exact Pr.append (PT2.keep (R.tups B2) hp') (.cons (hv.keep (R.tups B2)) .nil)
    · cases cur with
      | none => cases e
      | some b' =>
        refine q2 ?_ H (ButL.refl _ _)
        show leafM ⟨st, some b'⟩ t = none
        unfold leafM
        rw [hb]
  · refine q2 ?_ H (ButL.refl _ _)
    show leafM ⟨st, cur⟩ t = none
    unfold leafM
    rw [hn]

/-! ### take -/
theorem tok_is {t : Fb.Tok} (ok : LexOk t) {c : Nat} (h1 : isLet c = false) (h2 : isFig c = false) : V.str (txtOf (tokT t)) = V.str (txtOf [c]) ↔ t = .ch c := by
  refine ⟨fun e => tokT_inj ok (t := .ch c) ⟨h1, h2⟩ (txtOf_inj (V.str.inj e)), fun e => by rw [e]; rfl⟩
theorem sg_tok {rs : List Row} (hf : Fine rs) {t : Fb.Tok} (ok : LexOk t) : txtOf (tokT t) ∈ signsOf rs ↔ isSg rs t = true := by
  constructor
  · intro h
    obtain ⟨_, _, _, cl, e⟩ := sg_not_br hf h
    rw [cps_txtOf] at e
    have hc := isSign_of h
    generalize sgCh (txtOf (tokT t)) = c at cl e hc
    have cl' : isLet c = false ∧ isFig c = false := by unfold clean at cl; simpa using cl
    have : t = .ch c := tokT_inj ok (t := .ch c) cl' e
    rw [this]; exact hc
  · intro h
    cases t with
    | word w => cases h
    | figs w => cases h
    | ch c => exact (chS_sg hf h).1
noncomputable def spTake (C CL : Addr) (rs : List Row) : Sp := fun vs H Q E => ∃ (r dx d pa wa : Addr) (m : MS) (t : Fb.Tok), vs = [.ref r, tokV t] ∧ RsAt C rs H r dx d pa wa m ∧ StkOk rs m.stk ∧ Fine rs ∧ TokOk t ∧ m.stk.length ≤ 29000 ∧ Stp C CL rs r dx d pa wa (stepM rs m t) H Q E
theorem scTake : FnScope psT psT (defScope sTake) := ⟨rfl, rfl, rfl, by decide +kernel, rfl, by decide +kernel, by decide +kernel⟩
theorem ok_take {f : Addr} {fd : FuncData} (F : Fun K "take" "Reader.take" sTake f fd) (T : TxR K mg C CL) (cB : MCal P w K mg base (CX1 P w) 3 C "begin_brackets" ps1 (spBegin C CL rs)) (cC : MCal P w K mg base (CX1 P w) 3 C "end_brackets" ps1 (spClose C CL rs))
    (cS : MCal P w K mg base (CX1 P w) 3 C "take_sign" psSign (spSign C CL rs)) (cT : MCal P w K mg base (CX1 P w) 3 C "take_leaf" psT (spTLeaf C CL rs)) : FnOk P w K mg base (CX1 P w) 4 f fd psT (spTake C CL rs) := by
  refine Fun.okX F scTake (fun vs H Q E h => ?_) (fun cdv A outer s H vs Q E hr h => ?_)
  · obtain ⟨r, dx, d, pa, wa, m, t, rfl, _⟩ := h; rfl
  obtain ⟨r, dx, d, pa, wa, m, t, rfl, RR, hok, hf, tk, hst, q1, q2⟩ := h
  have hu := hu_of hr
  refine ⟨_, pss_one (ps_if (pt_cmpR op_eq (pv 1) pe_str (nomark _)) (pss_one (ps_expr (pe_mcal0 (pv 0) T.cl cB hr passes_on)))
    (pss_one (ps_if (pt_cmpR op_eq (pv 1) pe_str (nomark _)) (pss_one (ps_expr (pe_mcal0 (pv 0) T.cl cC hr passes_on)))
    (pss_one (ps_if (pt_cmp (pc_din hu (pv 1) (pe_fld (pv 0) rfl))) (pss_one (ps_expr (pe_mcal (pv 0) T.cl cS hr passes_on (pa_cons (pv 1) pa_nil))))
      (pss_one (ps_expr (pe_mcal (pv 0) T.cl cT hr passes_on (pa_cons (pv 1) pa_nil))))))))), ?_⟩
  obtain ⟨us, R, hp⟩ := id RR.ex
  refine ⟨_, rfl, rfl, _, rfl, ite2 (fun c => ?_) (fun c => ?_)⟩
  · have e : t = .ch 40 := (tok_is tk.ok (by decide) (by decide)).mp (by rw [← s_open]; exact of_decide_eq_true c)
    have es : stepM rs m t = openM m := by unfold stepM; rw [if_pos e]
    rw [es] at q1 q2
    exact ⟨_, rfl, r, dx, _, rfl, R.ins, rfl, r, dx, d, pa, wa, m, rfl, RR, hst, q1, q2⟩
  have n40 : t ≠ .ch 40 := fun z => c (decide_eq_true (by rw [s_open]; exact (tok_is tk.ok (by decide) (by decide)).mpr z))
  refine ⟨_, rfl, rfl, _, rfl, ite2 (fun c1 => ?_) (fun c1 => ?_)⟩
  · have e : t = .ch 41 := (tok_is tk.ok (by decide) (by decide)).mp (by rw [← s_close]; exact of_decide_eq_true c1)
    have es : stepM rs m t = closeM m := by unfold stepM; rw [if_neg n40, if_pos e]
    rw [es] at q1 q2
    exact ⟨_, rfl, r, dx, _, rfl, R.ins, rfl, r, dx, d, pa, wa, m, rfl, RR, hok, hf, hst, q1, q2⟩
  have n41 : t ≠ .ch 41 := fun z => c1 (decide_eq_true (by rw [s_close]; exact (tok_is tk.ok (by decide) (by decide)).mpr z))
  obtain ⟨kvs, hk, hrow⟩ := R.rows
  refine ⟨_, rfl, _, rfl, r, C, dx, _, _, rfl, R.ins, T.cl, T.nR, rfl, d, _, rfl, DGet.k (k := Sum.inr (txtOf (tokT t))) hk, _, rfl, ?_⟩
  by_cases hs : txtOf (tokT t) ∈ signsOf rs
  · obtain ⟨a, hv, _⟩ := (hrow _).1 hs
    rw [hv]
    refine iteT ?_
    have hg := (sg_tok hf tk.ok).mp hs
    have es : stepM rs m t = signM rs m (txtOf (tokT t)) := by
      unfold stepM
      rw [if_neg n40, if_neg n41, if_pos hg]
      cases t with
      | word w => cases hg
      | figs w => cases hg
      | ch c => rfl
    rw [es] at q1 q2
    exact ⟨_, rfl, r, dx, _, rfl, R.ins, rfl, _, rfl, r, dx, d, pa, wa, m, _, rfl, RR, hok, hf, hs, hst, q1, q2⟩
  · rw [(hrow _).2 hs]
    refine iteF ?_
    have hg : ¬ isSg rs t = true := fun z => hs ((sg_tok hf tk.ok).mpr z)
    have es : stepM rs m t = leafM m t := by unfold stepM; rw [if_neg n40, if_neg n41, if_neg hg]
    rw [es] at q1 q2
    exact ⟨_, rfl, r, dx, _, rfl, R.ins, rfl, _, rfl, r, dx, d, pa, wa, m, t, rfl, RR, tk, hst, q1, q2⟩

/-! ### whole -/
noncomputable def spRWhole (C CL : Addr) (rs : List Row) : Sp := fun vs H Q E => ∃ (r dx d pa wa : Addr) (m : MS), vs = [.ref r] ∧ RsAt C rs H r dx d pa wa m ∧ StkOk rs m.stk ∧ Fine rs ∧ m.stk.length ≤ 29000 ∧
  (∀ b, finM m = some b → ∀ v H', ButL [r, pa, wa] H H' → TreeAt H' v b.erase → Q v H') ∧ (finM m = none → ∀ H', ButL [r, pa, wa] H H' → E (.ref CL) none H')
theorem scRWhole : FnScope ps1 ps1 (defScope sRWhole) := ⟨rfl, rfl, rfl, by decide +kernel, rfl, by decide +kernel, by decide +kernel⟩
theorem ok_rwhole {f : Addr} {fd : FuncData} (F : Fun K "whole" "Reader.whole" sRWhole f fd) (T : TxR K mg C CL) (cT : MCal P w K mg base (CX1 P w) 1 C "check_part_is_there" ps1 (spThere C CL rs)) (cA : MCal P w K mg base CX0 2 C "put_all_together" ps1 (spPutAll C rs)) :
    FnOk P w K mg base (CX1 P w) 3 f fd ps1 (spRWhole C CL rs) := by
  refine Fun.okX F scRWhole (fun vs H Q E h => ?_) (fun cdv A outer s H vs Q E hr h => ?_)
  · obtain ⟨r, dx, d, pa, wa, m, rfl, _⟩ := h; rfl
  obtain ⟨r, dx, d, pa, wa, ⟨st, cur⟩, rfl, ⟨us, R, hp⟩, hok, hf, hst, q1, q2⟩ := h
  have hm : Mades (cxOf (CX1 P w) P w K mg base ps1 "Reader.whole" (defScope sRWhole) f cdv A outer s H E) CL (fun _ => E) := fun pins σ H s e h' vs I hx hE => passes_made I hx hE
  refine ⟨_, pss_cons (ps_expr (pe_mcal0 (pv 0) T.cl cT (hr.mono (by decide)) passes_on))
    (pss_cons (ps_expr (pe_mcal0 (pv 0) T.cl cA hr pass0))
    (pss_cons (ps_if (pt_truth (pe_fld (pv 0) rfl) (fun _ => rfl)) (pss_one (ps_raise rfl T.xL rfl hm (pa_cons pe_str pa_nil))) pss_nil)
    (pss_one (ps_ret (pe_ix ix_list (pe_fld (pv 0) rfl) pe_int (fun _ _ => rfl)))))), ?_⟩
  refine ⟨_, rfl, r, dx, _, rfl, R.ins, rfl, r, dx, d, pa, wa, us, _, _, rfl, R, fun e => ?_, fun e => ?_⟩
  · cases cur with
    | none => cases e
    | some b =>
      refine ⟨_, rfl, r, dx, _, rfl, R.ins, rfl, r, dx, d, pa, wa, b, st, rfl, ⟨us, R, hp⟩, hok, hf, Nat.le_trans hst (by decide), fun H1 B1 R1 => ?_⟩
      obtain ⟨b', hb⟩ := redA_cases st b
      obtain ⟨us1, R1, hp1⟩ := R1.ex
      refine ⟨_, rfl, r, C, dx, _, _, rfl, R1.ins, T.cl, T.nW, rfl, _, .inl ⟨_, SqL.of R1.wai, rfl⟩, ?_⟩
      rcases hb with hb | ⟨st', hb⟩
      · rw [hb] at R1 hp1
        have e0 : (waits (MS.mk (redA st b).1 (some (redA st b).2)).stk) = [] := by rw [hb]; rfl
        rw [e0]
        refine iteF ?_
        have hp2 : Paired (PT2 H1) us1 [b'] := hp1
        cases hp2 with
        | cons k1 k2 =>
          cases k2
          refine ⟨_, rfl, r, C, dx, _, _, rfl, R1.ins, T.cl, T.nP, rfl, _, _, _, _, rfl, rfl, SqL.of R1.par, rfl, q1 b' ?_ _ H1 B1 k1⟩
          show finM ⟨st, some b⟩ = some b'
          unfold finM
          simp only
          rw [hb]
      · have et : (!((waits (MS.mk (redA st b).1 (some (redA st b).2)).stk).map V.str).isEmpty) = true := by
          rw [hb]
          show (!((waits (.par :: st')).map V.str).isEmpty) = true
          rw [waits_last]; simp
        rw [et]
        refine iteT ⟨(by show 1 ≤ sizeLine; decide), q2 ?_ H1 B1⟩
        show finM ⟨st, some b⟩ = none
        unfold finM
        simp only
        rw [hb]
  · cases cur with
    | some b => cases e
    | none => exact q2 rfl H (ButL.refl _ _)

/-! ### a new reader -/
noncomputable abbrev psInit : List Str := ["self", "rows"]
noncomputable def spInit (C : Addr) : Sp := fun vs H Q _ => ∃ (r dx d : Addr), vs = [.ref r, .ref d] ∧ H r = some (.ins C dx []) ∧ ∀ pa wa H', H pa = none → H wa = none → pa ≠ wa → ButL [r] H H' → H' r = some (.ins C dx (rdF d pa wa true)) → H' pa = some (.lst []) → H' wa = some (.lst []) → Q .non H'
theorem scInit : FnScope psInit psInit (defScope sInit) := ⟨rfl, rfl, rfl, by decide +kernel, rfl, by decide +kernel, by decide +kernel⟩
theorem putF_snoc {f : Str} {v : V} : ∀ {fs : List (Str × V)}, (∀ p ∈ fs, p.1 ≠ f) → putF f v fs = fs ++ [(f, v)]
  | [], _ => rfl
  | (g, u) :: r, h => by
    have h1 : g ≠ f := h (g, u) (by simp)
    have h2 := putF_snoc (f := f) (v := v) (fs := r) fun p hp => h p (List.mem_cons_of_mem _ hp)
    unfold putF
    rw [h2]
    first
      | rw [if_neg h1]; rfl
      | rw [if_neg (fun z => h1 z.symm)]; rfl
      | simp [h1]
theorem init_f (d pa wa : Addr) : putF "part_due" (.bl true) (putF "waiting" (.ref wa) (putF "parts" (.ref pa) (putF "rows" (.ref d) []))) = rdF d pa wa true := by
  have n1 : (Str.ofString "rows") ≠ Str.ofString "parts" := by decide +kernel
  have n2 : (Str.ofString "rows") ≠ Str.ofString "waiting" := by decide +kernel
  have n3 : (Str.ofString "parts") ≠ Str.ofString "waiting" := by decide +kernel
  have n4 : (Str.ofString "rows") ≠ Str.ofString "part_due" := by decide +kernel
  have n5 : (Str.ofString "parts") ≠ Str.ofString "part_due" := by decide +kernel
  have n6 : (Str.ofString "waiting") ≠ Str.ofString "part_due" := by decide +kernel
  have e1 : putF (Str.ofString "rows") (.ref d) [] = [(Str.ofString "rows", .ref d)] := rfl
  have e2 : putF (Str.ofString "parts") (.ref pa) [(Str.ofString "rows", V.ref d)] = [(Str.ofString "rows", .ref d), (Str.ofString "parts", .ref pa)] := by rw [putF_snoc (fun p hp => by simp at hp; rw [hp]; exact n1)]; rfl
  have e3 : putF (Str.ofString "waiting") (.ref wa) [(Str.ofString "rows", V.ref d), (Str.ofString "parts", .ref pa)] = [(Str.ofString "rows", .ref d), (Str.ofString "parts", .ref pa), (Str.ofString "waiting", .ref wa)] := by
    rw [putF_snoc (fun p hp => by simp at hp; rcases hp with hp | hp <;> rw [hp]; exact n2; exact n3)]; rfl
  have e4 : putF (Str.ofString "part_due") (.bl true) [(Str.ofString "rows", V.ref d), (Str.ofString "parts", .ref pa), (Str.ofString "waiting", .ref wa)] = rdF d pa wa true := by
    rw [putF_snoc (fun p hp => by simp at hp; rcases hp with hp | hp | hp <;> rw [hp]; exact n4; exact n5; exact n6)]; rfl
  rw [e1, e2, e3, e4]
theorem len_put {f : Str} {v : V} {fs : List (Str × V)} {n : Nat} (h : fs.length ≤ n) : (putF f v fs).length ≤ n + 1 := Nat.le_trans (length_putF f v fs) (by omega)
theorem ok_init {f : Addr} {fd : FuncData} (F : Fun K "__init__" "Reader.__init__" sInit f fd) (T : TxR K mg C CL) : FnOk P w K mg base CX0 1 f fd psInit (spInit C) := by
  refine F.ok scInit (fun vs H Q E h => ?_) (fun cdv A outer s H vs Q E hr h => ?_)
  · obtain ⟨r, dx, d, rfl, _⟩ := h; rfl
  obtain ⟨r, dx, d, rfl, hi, q⟩ := h
  refine ⟨_, pss_cons (ps_fld (pv 0) (pv 1) rfl) (pss_cons (ps_fld (pv 0) (pe_lst pa_nil) rfl) (pss_cons (ps_fld (pv 0) (pe_lst pa_nil) rfl) (pss_one (ps_fld (pv 0) pe_bl rfl)))), ?_⟩
  refine ⟨_, rfl, _, rfl, r, C, dx, _, rfl, hi, T.cl, T.nR, (by show 0 < 1000; decide), ?_⟩
  refine ⟨(by show 0 ≤ sizeLine; decide), fun pa hpa => ?_⟩
  obtain ⟨n1, hpa0⟩ := free_upd hpa
  refine ⟨_, rfl, r, C, dx, _, rfl, (by rw [upd_ne (Ne.symm n1), upd_same]), T.cl, T.nP, Nat.lt_of_le_of_lt (len_put (n := 0) (Nat.le_refl _)) (by decide), ?_⟩
  refine ⟨(by show 0 ≤ sizeLine; decide), fun wa hwa => ?_⟩
  obtain ⟨n2, hwa1⟩ := free_upd hwa
  obtain ⟨n3, hwa2⟩ := free_upd hwa1
  obtain ⟨n4, hwa0⟩ := free_upd hwa2
  refine ⟨_, rfl, r, C, dx, _, rfl, (by rw [upd_ne (Ne.symm n2), upd_same]), T.cl, T.nW, Nat.lt_of_le_of_lt (len_put (len_put (n := 0) (Nat.le_refl _))) (by decide), ?_⟩
  refine ⟨_, rfl, r, C, dx, _, rfl, upd_same, T.cl, T.nD, Nat.lt_of_le_of_lt (len_put (len_put (len_put (n := 0) (Nat.le_refl _)))) (by decide), ?_⟩
  refine q pa wa _ hpa0 hwa0 (Ne.symm n3) ?_ ?_ ?_ ?_
  · exact (((((((ButL.refl [r] H).put (p := r) (by simp) _).new hpa _).put (p := r) (by simp) _).new hwa _).put (p := r) (by simp) _).put (p := r) (by simp) _)
  · rw [upd_same]; exact congrArg (fun z => some (HO.ins C dx z)) (init_f d pa wa)
  · rw [upd_ne n1, upd_ne n1, upd_ne (Ne.symm n3), upd_ne n1, upd_same]
  · rw [upd_ne n2, upd_ne n2, upd_same]
end
end K05

namespace K05
open PySem L2 Fb PyProof.Rows
seal L2.PE L2.PT L2.PW L2.PA L2.PS L2.PSs L2.PC L2.PG L2.PGs L2.PI L2.PO Fb.PJ
section
variable {P : Program} {w : World} {K : PySem.W.Frag} {mg : Str → Option Value} {base : Heap} {aG aD CB CN CT CM CL : Addr}
noncomputable abbrev nTwice : List Str := ["table", "seen", "sign", "rank", "side"]
noncomputable def spTwice (CT : Addr) : Sp := fun vs H Q E => ∃ (l : Addr) (rs : List Row), vs = [.ref l] ∧ TabAt H l rs ∧ ShortR rs ∧ rs.length ≤ 100 ∧ (Once rs → ∀ H', Same H H' → Q .non H') ∧ (¬ Once rs → ∀ H', Same H H' → E (.ref CT) none H')
theorem scTwice : FnScope nTwice ["table"] (defScope sTwice) := ⟨rfl, rfl, rfl, by decide +kernel, rfl, by decide +kernel, by decide +kernel⟩
theorem take_snoc {α : Type} {xs : List α} {i : Nat} {x : α} (h : xs[i]? = some x) : xs.take (i + 1) = xs.take i ++ [x] := by
  rw [List.take_add_one, h]; rfl
theorem once_take {rs : List Row} (h : Once rs) {i : Nat} {r : Row} (hr : rs[i]? = some r) : r.1 ∉ (rs.take i).map (·.1) := fun m => by
  have h1 : ((rs.take (i + 1)).map (·.1)).Nodup := by
    have h' : (rs.map (fun r : Row => r.1)).Nodup := h
    exact List.Sublist.nodup ((List.take_sublist (i + 1) rs).map (fun r : Row => r.1)) h'
  rw [take_snoc hr, List.map_append] at h1
  have := (List.nodup_append.mp h1).2.2 r.1 m r.1 (by simp)
  exact this rfl
theorem three_ok {a b c : Str} (ha : a.length ≤ 100) (hb : b.length ≤ 202) (hc : c.length ≤ 100) : (Str.empty ++ a).length ≤ sizeLine ∧ (Str.empty ++ a ++ b).length ≤ sizeLine ∧ (Str.empty ++ a ++ b ++ c).length ≤ sizeLine := by
  have e : Str.empty.length = 0 := rfl
  refine ⟨?_, ?_, ?_⟩
  · rw [strLen_append, e]; exact Nat.le_of_lt (small1000 (by omega))
  · rw [strLen_append, strLen_append, e]; exact Nat.le_of_lt (small1000 (by omega))
  · rw [strLen_append, strLen_append, strLen_append, e]; exact Nat.le_of_lt (small1000 (by omega))
theorem ok_twice {f : Addr} {fd : FuncData} (F : Fun K "check_no_sign_twice" "check_no_sign_twice" sTwice f fd) (T : Txt K mg aG aD CB CN CT CM CL) : FnOk P w K mg base (CX1 P w) 1 f fd ["table"] (spTwice CT) := by
  refine Fun.okX F scTwice (fun vs H Q E h => ?_) (fun cdv A outer s H vs Q E hr h => ?_)
  · obtain ⟨l, rs, rfl, _⟩ := h; rfl
  obtain ⟨l, rs, rfl, ⟨as, t1, t2⟩, hsh, h100, q1, q2⟩ := h
  have nd := scTwice.nd
  have hu := hu_of hr
  have hm : Mades (cxOf (CX1 P w) P w K mg base nTwice "check_no_sign_twice" (defScope sTwice) f cdv A outer s H E) CT (fun _ => E) := fun pins σ H s e h' vs I hx hE => passes_made I hx hE
  refine ⟨_, pss_cons (ps_set (i := 1) nd rfl (Or.inl rfl) pe_dnewK) (pss_one (ps_for PassesOwn.leaving rfl (pi_list (pv 0)) (pg_tup rfl (pgs_cons (pg_name (i := 2) nd rfl (Or.inl rfl)) (pgs_cons (pg_name (i := 3) nd rfl (Or.inl rfl)) (pgs_cons (pg_name (i := 4) nd rfl (Or.inl rfl)) pgs_nil))))
    (pss_cons (ps_if (pt_cmp (pc_din hu (pv 2) (pv 1))) (pss_one (ps_raise rfl T.eT rfl hm (pa_cons (pe_joined (pj_cons pe_str (pj_cons (pe_fmtR (pv 2)) (pj_cons pe_str pj_nil)))) pa_nil))) pss_nil)
    (pss_one (ps_dput hu (pv 1) (pv 2) pe_bl rfl))))), ?_⟩
  intro d hd
  refine ⟨_, rfl, l, rfl, ⟨_, SqL.of (by rw [upd_ne (ne_of_none t1 hd)]; exact t1)⟩, for_list (K := K) (a := l) (xs := as.map V.ref) (fun i σ H2 => ∃ a b c : Option V, σ = [some (.ref l), some (.ref d), a, b, c] ∧ Same H H2 ∧ ∃ kvs : List (Key × V), H2 d = some (.dK kvs) ∧ kvs.map (·.1) = (rs.take i).map (fun r => (Sum.inr r.1 : Key)) ∧ ((rs.take i).map (·.1)).Nodup) ?_ ?_ ?_ ?_⟩
  · exact ⟨none, none, none, rfl, Same.new hd _, [], upd_same, rfl, by simp⟩
  · rintro i σ H2 hi ⟨a, b, c, rfl, e, _⟩
    exact SqL.of (e _ _ t1)
  · rintro i x σ H2 hi ⟨a, b, c, rfl, e, kvs, hk, hkeys, hnd⟩
    obtain ⟨ra, r, rfl, hr1, hr2⟩ := row_get t2 hi
    have hmem : r ∈ rs := List.mem_of_getElem? hr1
    have hil : i < rs.length := (List.getElem?_eq_some_iff.mp hr1).1
    obtain ⟨sh1, sh2⟩ := hsh r hmem
    refine ⟨ra, _, rfl, SqT.of (e _ _ hr2), rfl, _, _, rfl, _, _, rfl, _, _, rfl, rfl, ?_⟩
    refine ⟨_, rfl, _, rfl, d, _, rfl, DGet.k (k := Sum.inr r.1) hk, _, rfl, ?_⟩
    have hlen : kvs.length = i := by
      have := congrArg List.length hkeys
      rw [List.length_map, List.length_map, List.length_take] at this
      omega
    cases ev : valV kvs (Sum.inr r.1 : Key) with
    | some v =>
      refine iteT ?_
      have hin : r.1 ∈ (rs.take i).map (·.1) := by
        have := valV_in ev
        rw [hkeys] at this
        obtain ⟨y, hy, ey⟩ := List.mem_map.mp this
        exact List.mem_map.mpr ⟨y, hy, Sum.inr.inj ey⟩
      have hno : ¬ Once rs := fun z => once_take z hr1 hin
      obtain ⟨j1, j2, j3⟩ := three_ok (a := "the sign ") (b := reprText r.1) (c := " stands in the table twice") (by decide +kernel) sh1.repr (by decide +kernel)
      exact ⟨_, rfl, j1, _, rfl, _, rfl, Nat.le_trans sh1.repr (by decide), _, rfl, j2, _, rfl, j3, j3, (by show 1 ≤ sizeLine; decide), q2 hno H2 e⟩
    | none =>
      refine iteF ?_
      refine ⟨_, rfl, _, rfl, d, _, rfl, DPut.k (k := Sum.inr r.1) hk (small1000 (by omega)), ?_⟩
      have hno : (Sum.inr r.1 : Key) ∉ kvs.map (·.1) := valV_not ev
      refine ⟨_, _, _, rfl, e.put hd _, _, upd_same, ?_, ?_⟩
      · rw [putK_new _ ev, take_snoc hr1, List.map_append, List.map_append, hkeys]
        rfl
      · rw [take_snoc hr1, List.map_append]
        refine nd_snoc hnd fun m => hno ?_
        rw [hkeys]
        obtain ⟨y, hy, ey⟩ := List.mem_map.mp m
        exact List.mem_map.mpr ⟨y, hy, by rw [ey]⟩
  · rintro σ H2 ⟨a, b, c, rfl, e, kvs, hk, hkeys, hnd⟩
    refine q1 ?_ H2 e
    rw [List.length_map, Pr.length t2, List.take_length] at hnd
    exact hnd

noncomputable def spOne (CM : Addr) : Sp := fun vs H Q E => ∃ (l : Addr) (rs : List Row), vs = [.ref l] ∧ TabAt H l rs ∧ ShortR rs ∧ rs.length ≤ 100 ∧ (One rs → ∀ H', Same H H' → Q .non H') ∧ (¬ One rs → ∀ H', Same H H' → E (.ref CM) none H')
noncomputable abbrev nOne : List Str := ["table", "side_of_rank", "sign", "rank", "side"]
theorem scOne : FnScope nOne ["table"] (defScope sOne) := ⟨rfl, rfl, rfl, by decide +kernel, rfl, by decide +kernel, by decide +kernel⟩
theorem ok_one {f : Addr} {fd : FuncData} (F : Fun K "check_one_side_a_rank" "check_one_side_a_rank" sOne f fd) (T : Txt K mg aG aD CB CN CT CM CL) : FnOk P w K mg base (CX1 P w) 1 f fd ["table"] (spOne CM) := by
  refine Fun.okX F scOne (fun vs H Q E h => ?_) (fun cdv A outer s H vs Q E hr h => ?_)
  · obtain ⟨l, rs, rfl, _⟩ := h; rfl
  obtain ⟨l, rs, rfl, ⟨as, t1, t2⟩, hsh, h100, q1, q2⟩ := h
  have nd := scOne.nd
  have hm : Mades (cxOf (CX1 P w) P w K mg base nOne "check_one_side_a_rank" (defScope sOne) f cdv A outer s H E) CM (fun _ => E) := fun pins σ H s e h' vs I hx hE => passes_made I hx hE
  refine ⟨_, pss_cons (ps_set (i := 1) nd rfl (Or.inl rfl) pe_dnewK) (pss_one (ps_for PassesOwn.leaving rfl (pi_list (pv 0)) (pg_tup rfl (pgs_cons (pg_name (i := 2) nd rfl (Or.inl rfl)) (pgs_cons (pg_name (i := 3) nd rfl (Or.inl rfl)) (pgs_cons (pg_name (i := 4) nd rfl (Or.inl rfl)) pgs_nil))))
    (pss_one (ps_if (pt_cmpR op_ne (pe_bm PySem.F.plainAttrs_dict PySem.F.slot_dict_setdefault PySem.F.type_dict_setdefault mt_setD (pv 1) (pa_cons (pv 3) (pa_cons (pv 4) pa_nil))) (pv 4) (nomark _))
      (pss_one (ps_raise rfl T.eM rfl hm (pa_cons (pe_joined (pj_cons pe_str (pj_cons (pe_fmtR (pv 2)) (pj_cons pe_str pj_nil)))) pa_nil))) pss_nil)))), ?_⟩
  intro d hd
  refine ⟨_, rfl, l, rfl, ⟨_, SqL.of (by rw [upd_ne (ne_of_none t1 hd)]; exact t1)⟩, for_list (K := K) (a := l) (xs := as.map V.ref) (fun i σ H2 => ∃ a b c : Option V, σ = [some (.ref l), some (.ref d), a, b, c] ∧ Same H H2 ∧ ∃ kvs : List (Key × V), H2 d = some (.dK kvs) ∧ kvs.length ≤ i ∧
      (∀ k v, valV kvs k = some v → ∃ r ∈ rs.take i, k = Sum.inl r.2.1 ∧ v = .str r.2.2) ∧ (∀ r ∈ rs.take i, valV kvs (Sum.inl r.2.1) = some (.str r.2.2))) ?_ ?_ ?_ ?_⟩
  · exact ⟨none, none, none, rfl, Same.new hd _, [], upd_same, Nat.le_refl _, fun k v h => (by have h' : (none : Option V) = some v := h; cases h'), fun r hr => (by simp at hr)⟩
  · rintro i σ H2 hi ⟨a, b, c, rfl, e, _⟩
    exact SqL.of (e _ _ t1)
  · rintro i x σ H2 hi ⟨a, b, c, rfl, e, kvs, hk, hkl, hv1, hv2⟩
    obtain ⟨ra, r, rfl, hr1, hr2⟩ := row_get t2 hi
    have hmem : r ∈ rs := List.mem_of_getElem? hr1
    have hil : i < rs.length := (List.getElem?_eq_some_iff.mp hr1).1
    obtain ⟨sh1, sh2⟩ := hsh r hmem
    refine ⟨ra, _, rfl, SqT.of (e _ _ hr2), rfl, _, _, rfl, _, _, rfl, _, _, rfl, rfl, ?_⟩
    refine ⟨_, rfl, .inr (.inr (.inl ⟨rfl, .inl ⟨kvs, hk⟩⟩)), _, rfl, _, rfl, d, kvs, Sum.inl r.2.1, _, rfl, rfl, hk, small1000 (by omega), fun v hv => ?_, fun hn => ?_⟩
    · obtain ⟨q, hq, ek, rfl⟩ := hv1 _ _ hv
      have ek' : r.2.1 = q.2.1 := Sum.inl.inj ek
      refine ⟨_, rfl, rfl, _, rfl, ?_⟩
      refine ite2 (fun c1 => ?_) (fun c1 => ?_)
      · have hne : q.2.2 ≠ r.2.2 := fun z => by rw [z] at c1; simp at c1
        have hno : ¬ One rs := fun z => hne (z q (List.mem_of_mem_take hq) r hmem ek'.symm)
        obtain ⟨j1, j2, j3⟩ := three_ok (a := "the sign ") (b := reprText r.1) (c := " has another side than a sign of the same rank") (by decide +kernel) sh1.repr (by decide +kernel)
        exact ⟨_, rfl, j1, _, rfl, _, rfl, Nat.le_trans sh1.repr (by decide), _, rfl, j2, _, rfl, j3, j3, (by show 1 ≤ sizeLine; decide), q2 hno H2 e⟩
      · have heq : q.2.2 = r.2.2 := by
          have : decide (V.str q.2.2 = V.str r.2.2) = true := by simpa using c1
          exact V.str.inj (of_decide_eq_true this)
        refine ⟨_, _, _, rfl, e, kvs, hk, by omega, fun k v h => ?_, fun y hy => ?_⟩
        · obtain ⟨y, hy, ey⟩ := hv1 k v h
          exact ⟨y, by rw [take_snoc hr1]; exact List.mem_append_left _ hy, ey⟩
        · rcases take_succ_mem hr1 hy with z | rfl
          · exact hv2 y z
          · rw [hv, heq]
    · refine ⟨_, rfl, rfl, _, rfl, ?_⟩
      refine iteNS rfl ?_
      refine ⟨_, _, _, rfl, e.put hd _, _, upd_same, ?_, fun k v h => ?_, fun y hy => ?_⟩
      · have := length_putK kvs (Sum.inl r.2.1) (V.str r.2.2); omega
      · rw [valV_put] at h
        split at h
        · rename_i ek
          exact ⟨r, by rw [take_snoc hr1]; exact List.mem_append_right _ (by simp), ek, (Option.some.inj h).symm⟩
        · obtain ⟨y, hy, ey⟩ := hv1 k v h
          exact ⟨y, by rw [take_snoc hr1]; exact List.mem_append_left _ hy, ey⟩
      · rw [valV_put]
        rcases take_succ_mem hr1 hy with z | rfl
        · by_cases ek : (Sum.inl y.2.1 : Key) = Sum.inl r.2.1
          · have := hv2 y z
            rw [ek, hn] at this
            cases this
          · rw [if_neg ek]; exact hv2 y z
        · rw [if_pos rfl]
  · rintro σ H2 ⟨a, b, c, rfl, e, kvs, hk, hkl, hv1, hv2⟩
    refine q1 (fun r hr q hq ek => ?_) H2 e
    rw [List.length_map, Pr.length t2, List.take_length] at hv2
    have h1 := hv2 r hr
    have h2 := hv2 q hq
    rw [ek, h2] at h1
    exact (V.str.inj (Option.some.inj h1)).symm

/-- what check_table says of a table -/
noncomputable def spCheck (CN CT CM : Addr) : Sp := fun vs H Q E => ∃ (l : Addr) (rs : List Row), vs = [.ref l] ∧ TabAt H l rs ∧ ShortR rs ∧ rs.length ≤ 100 ∧ (Fine rs → ∀ H', Same H H' → Q .non H') ∧
  (¬ Words rs → ∀ H', Same H H' → E (.ref CN) none H') ∧ (Words rs → ¬ Once rs → ∀ H', Same H H' → E (.ref CT) none H') ∧ (Words rs → Once rs → ¬ One rs → ∀ H', Same H H' → E (.ref CM) none H')
theorem scCheck : FnScope ["table"] ["table"] (defScope sCheck) := ⟨rfl, rfl, rfl, by decide +kernel, rfl, by decide +kernel, by decide +kernel⟩
theorem ok_check {f f1 f2 f3 : Addr} {fd fd1 fd2 fd3 : FuncData} (F : Fun K "check_table" "check_table" sCheck f fd)
    (G1 : FnOk P w K mg base (CX1 P w) 1 f1 fd1 ["table"] (spWords CN)) (b1 : Binds K fd1 ["table"] []) (k1 : PySem.W.keepIn K (.ref f1) = true) (m1 : mg "check_words" = some (.ref f1))
    (G2 : FnOk P w K mg base (CX1 P w) 1 f2 fd2 ["table"] (spTwice CT)) (b2 : Binds K fd2 ["table"] []) (k2 : PySem.W.keepIn K (.ref f2) = true) (m2 : mg "check_no_sign_twice" = some (.ref f2))
    (G3 : FnOk P w K mg base (CX1 P w) 1 f3 fd3 ["table"] (spOne CM)) (b3 : Binds K fd3 ["table"] []) (k3 : PySem.W.keepIn K (.ref f3) = true) (m3 : mg "check_one_side_a_rank" = some (.ref f3)) :
    FnOk P w K mg base (CX1 P w) 2 f fd ["table"] (spCheck CN CT CM) := by
  refine Fun.okX F scCheck (fun vs H Q E h => ?_) (fun cdv A outer s H vs Q E hr h => ?_)
  · obtain ⟨l, rs, rfl, _⟩ := h; rfl
  obtain ⟨l, rs, rfl, ht, hsh, h100, q0, q1, q2, q3⟩ := h
  refine ⟨_, pss_cons (ps_expr (pe_call G1 hr rfl m1 k1 b1 .nil passes_on (pa_cons (pv 0) pa_nil)))
    (pss_cons (ps_expr (pe_call G2 hr rfl m2 k2 b2 .nil passes_on (pa_cons (pv 0) pa_nil)))
    (pss_one (ps_expr (pe_call G3 hr rfl m3 k3 b3 .nil passes_on (pa_cons (pv 0) pa_nil))))), ?_⟩
  refine ⟨_, rfl, l, rs, rfl, ht, hsh, fun hw => ?_, fun hw => q1 hw H (Same.refl H)⟩
  refine ⟨_, rfl, l, rs, rfl, ht, hsh, h100, fun ho H1 e1 => ?_, fun ho H1 e1 => q2 hw ho H1 e1⟩
  refine ⟨_, rfl, l, rs, rfl, ht.same e1, hsh, h100, fun hn H2 e2 => ?_, fun hn H2 e2 => q3 hw ho hn H2 (e1.trans e2)⟩
  exact q0 (fine_iff.mpr ⟨hw, ho, hn⟩) H2 (e1.trans e2)
end
end K05

namespace K05
open PySem L2 Fb PyProof.Rows
seal L2.PE L2.PT L2.PW L2.PA L2.PS L2.PSs L2.PC L2.PG L2.PGs L2.PI L2.PO Fb.PJ
noncomputable abbrev sRows : Stmt := top 13
section
variable {P : Program} {w : World} {K : PySem.W.Frag} {mg : Str → Option Value} {base : Heap} {CN CT CM : Addr}
noncomputable def spRows (CN CT CM : Addr) : Sp := fun vs H Q E => ∃ (l : Addr) (rs : List Row), vs = [.ref l] ∧ TabAt H l rs ∧ ShortR rs ∧ rs.length ≤ 100 ∧ (Fine rs → ∀ d H', Same H H' → H d = none → DRows H' d rs → Q (.ref d) H') ∧
  (¬ Words rs → ∀ H', Same H H' → E (.ref CN) none H') ∧ (Words rs → ¬ Once rs → ∀ H', Same H H' → E (.ref CT) none H') ∧ (Words rs → Once rs → ¬ One rs → ∀ H', Same H H' → E (.ref CM) none H')
theorem scRows : FnScope ["table"] ["table"] (defScope sRows) := ⟨rfl, rfl, rfl, by decide +kernel, rfl, by decide +kernel, by decide +kernel⟩
theorem ok_rows {f : Addr} {fd : FuncData} (F : Fun K "rows_by_sign" "rows_by_sign" sRows f fd) (cC : Cal P w K mg base (CX1 P w) 2 "check_table" ["table"] (spCheck CN CT CM)) (md : mg "dict" = none) : FnOk P w K mg base (CX1 P w) 3 f fd ["table"] (spRows CN CT CM) := by
  refine Fun.okX F scRows (fun vs H Q E h => ?_) (fun cdv A outer s H vs Q E hr h => ?_)
  · obtain ⟨l, rs, rfl, _⟩ := h; rfl
  obtain ⟨l, rs, rfl, ht, hsh, h100, q0, q1, q2, q3⟩ := h
  have ndC : ((["sign", "rank", "side"] : List Str) ++ []).Nodup := by decide +kernel
  refine ⟨_, pss_cons (ps_expr (pe_cal cC hr rfl passes_on (pa_cons (pv 0) pa_nil)))
    (pss_one (ps_ret (pe_callTy (call_dictOf rfl) rfl md PyProof.Rows.boot_dict (pa_cons (pe_comp (cl := []) (Nl := ["sign", "rank", "side"]) (Nf := []) (js := []) (g := gTup K 3 (gCons (gName 0) (gCons (gName 1) (gCons (gName 2) gNil)))) (tt := tNoTest) (te := tTup (tCons (tVar 0) (tCons (tTup (tCons (tVar 1) (tCons (tVar 2) tNil))) tNil)))
      rfl (compSc_plain rfl (by decide +kernel) (by decide +kernel)) (pi_list (pv 0))
      (fun _ _ _ _ => pg_tup rfl (pgs_cons (pg_name (i := 0) ndC rfl (Or.inl rfl)) (pgs_cons (pg_name (i := 1) ndC rfl (Or.inl rfl)) (pgs_cons (pg_name (i := 2) ndC rfl (Or.inl rfl)) pgs_nil))))
      (fun _ _ _ _ => pts_nil) (fun _ _ _ _ => pe_tup (pa_cons (pv 0) (pa_cons (pe_tup (pa_cons (pv 1) (pa_cons (pv 2) pa_nil))) pa_nil)))) pa_nil)))), ?_⟩
  refine ⟨_, rfl, l, rs, rfl, ht, hsh, h100, fun hf H1 e1 => ?_, q1, q2, q3⟩
  obtain ⟨as, t1, t2⟩ := ht.same e1
  refine ⟨_, rfl, l, rfl, ⟨_, SqL.of t1⟩, fun D hD => ?_⟩
  have nlD : l ≠ D := ne_of_none t1 hD
  refine comp_list (K := K) (a := l) (D := D) (xs := as.map V.ref) (fun i σ Hc => (∃ a b c : Option V, σ = [a, b, c]) ∧ Same H1 Hc ∧ ∃ (bs : List Addr) (kvs : List (Key × V)), Hc D = some (.lst (bs.map V.ref)) ∧ Paired (PrAt Hc) bs kvs ∧ Paired (KvRow Hc) kvs (rs.take i)) ?_ ?_ ?_ ?_
  · exact ⟨⟨none, none, none, rfl⟩, Same.new hD _, [], [], upd_same, .nil, by rw [List.take_zero]; exact .nil⟩
  · rintro i σ Hc hi ⟨_, e, _⟩
    exact SqL.of (e _ _ t1)
  · rintro i x σ Hc hi ⟨⟨a, b, c, rfl⟩, e, bs, kvs, hb, hp1, hp2⟩
    obtain ⟨ra, r, rfl, hr1, hr2⟩ := row_get t2 hi
    have hil : i < rs.length := (List.getElem?_eq_some_iff.mp hr1).1
    refine ⟨ra, _, rfl, SqT.of (e _ _ hr2), rfl, _, _, rfl, _, _, rfl, _, _, rfl, rfl, ?_⟩
    dsimp only [tNoTest]
    rw [if_pos rfl]
    refine ⟨_, rfl, _, rfl, _, rfl, (by show 2 ≤ sizeLine; decide), fun p hp => ?_⟩
    refine ⟨(by show 2 ≤ sizeLine; decide), fun p2 hp2' => ?_⟩
    obtain ⟨n1, hp20⟩ := free_upd hp2'
    have nDp : D ≠ p := ne_of_none hb hp
    have nDp2 : D ≠ p2 := ne_of_none hb hp20
    refine ⟨bs.map V.ref, by rw [upd_ne nDp2, upd_ne nDp]; exact hb, ?_, ⟨_, _, _, rfl⟩, ((e.put (e.free hp) _).put (e.free hp20) _).put hD _, bs ++ [p2], kvs ++ [(Sum.inr r.1, .ref p)], ?_, ?_, ?_⟩
    · have l1 := Pr.length hp1
      have l2 := Pr.length hp2
      rw [List.length_take] at l2
      rw [List.length_map]
      exact small1000 (by omega)
    · rw [upd_same, List.map_append]; rfl
    · have kp : ∀ b xs, Hc b = some (.tup xs) → upd (upd (upd Hc p (.tup [.int r.2.1, .str r.2.2])) p2 (.tup [.str r.1, .ref p])) D (.lst (bs.map V.ref ++ [.ref p2])) b = some (.tup xs) := fun b xs h => by
        rw [upd_ne (fun z => by rw [z, hb] at h; cases h), upd_ne (ne_of_none h hp20), upd_ne (ne_of_none h hp)]; exact h
      refine Pr.append (Pr.mono (fun a kv h => kp _ _ h) hp1) (.cons ?_ .nil)
      show upd (upd (upd Hc p _) p2 _) D _ p2 = some (.tup [.str r.1, .ref p])
      rw [upd_ne (Ne.symm nDp2), upd_same]
    · have kp : ∀ b xs, Hc b = some (.tup xs) → upd (upd (upd Hc p (.tup [.int r.2.1, .str r.2.2])) p2 (.tup [.str r.1, .ref p])) D (.lst (bs.map V.ref ++ [.ref p2])) b = some (.tup xs) := fun b xs h => by
        rw [upd_ne (fun z => by rw [z, hb] at h; cases h), upd_ne (ne_of_none h hp20), upd_ne (ne_of_none h hp)]; exact h
      rw [take_snoc hr1]
      refine Pr.append (Pr.mono (fun kv r h => ⟨h.1, let ⟨a, x, y⟩ := h.2; ⟨a, x, kp _ _ y⟩⟩) hp2) (.cons ⟨rfl, p, rfl, ?_⟩ .nil)
      rw [upd_ne (Ne.symm nDp), upd_ne (Ne.symm n1), upd_same]
  · rintro σ Hc ⟨_, e, bs, kvs, hb, hp1, hp2⟩
    have el : (as.map V.ref).length = rs.length := by rw [List.length_map, Pr.length t2]
    rw [el, List.take_length] at hp2
    have hl2 := Pr.length hp2
    have hk := kv_keys hp2
    have hnd : (kvs.map (·.1)).Nodup := by
      rw [hk]
      exact map_nodup hf.once fun a _ b _ z => Sum.inr.inj z
    refine ⟨D, bs, kvs, rfl, hb, hp1, hnd, Nat.le_of_lt (small1000 (by omega)), fun d hd => ?_⟩
    have e2 : Same Hc (upd Hc d (.dK kvs)) := Same.new hd _
    refine q0 hf d _ ((e1.trans e).trans e2) (e1.free (e.free hd)) ⟨kvs, upd_same, fun sg => ?_⟩
    obtain ⟨k1, k2⟩ := kv_find (sg := sg) hp2
    exact ⟨fun m => let ⟨a, x, y⟩ := k1 m; ⟨a, x, e2 _ _ y⟩, k2⟩
end
end K05

namespace K05
open PySem L2 Fb PyProof.Rows
seal L2.PE L2.PT L2.PW L2.PA L2.PS L2.PSs L2.PC L2.PG L2.PGs L2.PI L2.PO Fb.PJ
noncomputable abbrev sRead : Stmt := top 17
theorem redA_len : ∀ (st : List Fr) (b : BT), (redA st b).1.length ≤ st.length
  | [], _ => Nat.le_refl _
  | .par :: _, _ => Nat.le_refl _
  | .op s l :: r, b => Nat.le_succ_of_le (redA_len r (.node s l b))
theorem redS_len {rs : List Row} {sg : Str} : ∀ (st : List Fr) (b : BT) (p : List Fr × BT), redS rs sg st b = some p → p.1.length ≤ st.length
  | [], b, p, e => by cases e; exact Nat.le_refl _
  | .par :: r, b, p, e => by cases e; exact Nat.le_refl _
  | .op s l :: r, b, p, e => by
    unfold redS at e
    cases c : ahead rs s sg with
    | none => rw [c] at e; cases e
    | some k => cases k with
      | true => rw [c] at e; exact Nat.le_succ_of_le (redS_len r (.node s l b) p e)
      | false =>
        rw [c] at e
        have e' : some (Fr.op s l :: r, b) = some p := e
        cases e'
        exact Nat.le_refl _
theorem stepM_len {rs : List Row} {m m' : MS} {t : Fb.Tok} (e : stepM rs m t = some m') : m'.stk.length ≤ m.stk.length + 1 := by
  obtain ⟨st, cur⟩ := m
  unfold stepM at e
  split at e
  · unfold openM at e
    cases cur with
    | none => cases e; exact Nat.le_refl _
    | some b => cases e
  · split at e
    · unfold closeM at e
      cases cur with
      | none => cases e
      | some b =>
        have h := redA_len st b
        simp only at e
        generalize redA st b = q at e h
        obtain ⟨st2, b2⟩ := q
        cases st2 with
        | nil => cases e
        | cons f r => cases f with
          | op s l => cases e
          | par => cases e; simp at h ⊢; omega
    · split at e
      · unfold signM at e
        cases cur with
        | none => cases e
        | some b =>
          simp only at e
          cases q : redS rs (chS (chOfT t)) st b with
          | none => rw [q] at e; cases e
          | some p =>
            have h := redS_len st b p q
            obtain ⟨st2, b2⟩ := p
            rw [q] at e
            cases e
            simp at h ⊢; omega
      · unfold leafM at e
        cases q : leafB t with
        | none => rw [q] at e; cases e
        | some x =>
          rw [q] at e
          cases cur with
          | some b => cases e
          | none => cases e; exact Nat.le_succ _
theorem addLet_len (c : Nat) (ts : List Fb.Tok) : (addLet c ts).length ≤ ts.length + 1 := by
  cases ts with
  | nil => simp [addLet]
  | cons t r => cases t <;> simp [addLet]
theorem addFig_len (c : Nat) (ts : List Fb.Tok) : (addFig c ts).length ≤ ts.length + 1 := by
  cases ts with
  | nil => simp [addFig]
  | cons t r => cases t <;> simp [addFig]
theorem lex0_len : ∀ x : List Nat, (lex0 x).length ≤ x.length
  | [] => Nat.le_refl _
  | c :: r => by
    have := lex0_len r
    show (push c (lex0 r)).length ≤ r.length + 1
    unfold push
    split
    · exact Nat.le_trans (addLet_len _ _) (by omega)
    · split
      · exact Nat.le_trans (addFig_len _ _) (by omega)
      · simp; omega
theorem lex_len (x : List Nat) : (lex x).length ≤ x.length := Nat.le_trans (List.length_filter_le _ _) (lex0_len x)
theorem tok_len : ∀ (n : Nat) (x : List Nat), x.length ≤ n → ∀ t ∈ lex0 x, (tokT t).length ≤ x.length
  | _, [], _, t, h => by cases h
  | 0, c :: r, hl, t, h => by simp at hl
  | n + 1, c :: r, hl, t, h => by
    rw [lex0_first] at h
    have hp := tokLen_pos c r
    rcases List.mem_cons.mp h with z | z
    · rw [z, tokT_of, List.length_take]; omega
    · have := tok_len n _ (by rw [List.length_drop]; omega) t z
      rw [List.length_drop] at this
      omega
theorem toks_ok {x : List Nat} (h : LineOk x) : ∀ t ∈ lex x, TokOk t := fun t ht =>
  ⟨lex_ok x t ht, fun w e => h.figs w (e ▸ ht), Nat.le_trans (tok_len _ x (Nat.le_refl _) t (List.mem_filter.mp ht).1) h.len, h.asc t ht⟩
theorem runM_take {rs : List Row} {ts : List Fb.Tok} {i : Nat} {m : MS} {t : Fb.Tok} (h : runM rs ⟨[], none⟩ (ts.take i) = some m) (ht : ts[i]? = some t) : (stepM rs m t = none → readM rs ts = none) ∧ (∀ m', stepM rs m t = some m' → runM rs ⟨[], none⟩ (ts.take (i + 1)) = some m') := by
  refine ⟨fun e => ?_, fun m' e => ?_⟩
  · have e1 : ts = ts.take i ++ t :: ts.drop (i + 1) := by
      have hlt := (List.getElem?_eq_some_iff.mp ht).1
      have h2 : ts.drop i = t :: ts.drop (i + 1) := by
        obtain ⟨_, rfl⟩ := List.getElem?_eq_some_iff.mp ht
        exact List.drop_eq_getElem_cons hlt
      rw [← h2, List.take_append_drop]
    unfold readM
    rw [e1, runM_app, h]
    show (runM rs m (t :: ts.drop (i + 1))).bind finM = none
    rw [runM_one, e]; rfl
  · rw [List.take_add_one, ht, runM_app, h]
    show runM rs m [t] = _
    rw [runM_one, e]; rfl
section
variable {P : Program} {w : World} {K : PySem.W.Frag} {mg : Str → Option Value} {base : Heap} {C CL CN CT CM : Addr}
noncomputable abbrev psRead : List Str := ["table", "line"]
noncomputable abbrev nRead : List Str := ["table", "line", "reader", "token"]
/-- what read promises, of any table -/
noncomputable def spRead (CN CT CM CL : Addr) : Sp := fun vs H Q E => ∃ (l : Addr) (rs : List Row) (x : List Nat), vs = [.ref l, .str (txtOf x)] ∧ TabAt H l rs ∧ ShortR rs ∧ rs.length ≤ 100 ∧ LineOk x ∧
  (Fine rs → (∀ t, Reads rs x t → ∀ v H', TreeAt H' v t → Same H H' → Q v H') ∧ ((∀ t, ¬ Reads rs x t) → ∀ H', Same H H' → E (.ref CL) none H')) ∧
  (¬ Words rs → ∀ H', Same H H' → E (.ref CN) none H') ∧ (Words rs → ¬ Once rs → ∀ H', Same H H' → E (.ref CT) none H') ∧ (Words rs → Once rs → ¬ One rs → ∀ H', Same H H' → E (.ref CM) none H')
theorem scRead : FnScope nRead psRead (defScope sRead) := ⟨rfl, rfl, rfl, by decide +kernel, rfl, by decide +kernel, by decide +kernel⟩
theorem ok_read {f fI : Addr} {fd fdI : FuncData} (F : Fun K "read" "read" sRead f fd) (T : TxR K mg C CL) (cR : Cal P w K mg base (CX1 P w) 4 "rows_by_sign" ["table"] (spRows CN CT CM)) (cK : Cal P w K mg base CX0 4 "tokens_of" psToks spToks)
    (M : Mk K C fI) (GI : FnOk P w K mg base CX0 3 fI fdI psInit (spInit C)) (bI : Binds K fdI psInit []) (mC : mg "Reader" = some (.ref C)) (cT : ∀ rs, MCal P w K mg base (CX1 P w) 4 C "take" psT (spTake C CL rs)) (cW : ∀ rs, MCal P w K mg base (CX1 P w) 4 C "whole" ps1 (spRWhole C CL rs)) :
    FnOk P w K mg base (CX1 P w) 5 f fd psRead (spRead CN CT CM CL) := by
  refine Fun.okX F scRead (fun vs H Q E h => ?_) (fun cdv A outer s H vs Q E hr h => ?_)
  · obtain ⟨l, rs, x, rfl, _⟩ := h; rfl
  obtain ⟨l, rs, x, rfl, ht, hsh, h100, hx, q0, q1, q2, q3⟩ := h
  have nd := scRead.nd
  refine ⟨_, pss_cons (ps_set (i := 2) nd rfl (Or.inl rfl) (pe_make M GI hr rfl mC bI .nil pass0 (pa_cons (pe_cal cR hr rfl passes_on (pa_cons (pv 0) pa_nil)) pa_nil)))
    (pss_cons (ps_for PassesOwn.leaving rfl (pi_list (pe_cal cK hr rfl pass0 (pa_cons (pv 1) pa_nil))) (pg_name (i := 3) nd rfl (Or.inl rfl)) (pss_one (ps_expr (pe_mcal (pv 2) T.cl (cT rs) hr passes_on (pa_cons (pv 3) pa_nil)))))
    (pss_one (ps_ret (pe_mcal0 (pv 2) T.cl (cW rs) hr passes_on)))), ?_⟩
  refine ⟨_, rfl, l, rs, rfl, ht, hsh, h100, fun hf d H1 e1 hd1 hD => ?_, q1, q2, q3⟩
  obtain ⟨g1, g2⟩ := q0 hf
  have rm := reads_machine hf x
  have bad : readM rs (lex x) = none → ∀ H', Same H H' → E (.ref CL) none H' := fun z => g2 fun t ht => by
    obtain ⟨b, hb, _⟩ := (rm t).mp ht
    rw [z] at hb; cases hb
  have good : ∀ b, readM rs (lex x) = some b → ∀ v H', TreeAt H' v b.erase → Same H H' → Q v H' := fun b hb => g1 _ ((rm _).mpr ⟨b, hb, rfl⟩)
  intro r dx hr1 hdx1 ndx
  refine ⟨r, dx, d, rfl, upd_same, fun pa wa H2 hpa hwa npw B2 hi2 hp2 hw2 => ⟨rfl, ?_⟩⟩
  have hr0 := e1.free hr1
  have npr : pa ≠ r := fun z => by rw [z, upd_same] at hpa; cases hpa
  have nwr : wa ≠ r := fun z => by rw [z, upd_same] at hwa; cases hwa
  have hpa1 : H1 pa = none := by
    rw [upd_ne npr] at hpa
    by_cases z : pa = dx
    · rw [z, upd_same] at hpa; cases hpa
    · rw [upd_ne z] at hpa; exact hpa
  have hwa1 : H1 wa = none := by
    rw [upd_ne nwr] at hwa
    by_cases z : wa = dx
    · rw [z, upd_same] at hwa; cases hwa
    · rw [upd_ne z] at hwa; exact hwa
  have e2 : Same H1 H2 := fun b u hb => B2 b u (by simp only [List.mem_cons, List.not_mem_nil, or_false]; exact ne_of_none hb hr1) (by rw [upd_ne (ne_of_none hb hr1), upd_ne (ne_of_none hb hdx1)]; exact hb)
  have R2 : RsAt C rs H2 r dx d pa wa ⟨[], none⟩ := ⟨[], ⟨hi2, hp2, hw2, hD.same e2, npw⟩, .nil⟩
  have e02 := e1.trans e2
  -- tokens_of(line)
  refine ⟨_, rfl, x, rfl, hx.len, fun lt H3 e3 hlt hl3 => ?_⟩
  have e03 := e02.trans e3
  have nlp : lt ≠ pa := fun z => by rw [z, hp2] at hlt; cases hlt
  have nlw : lt ≠ wa := fun z => by rw [z, hw2] at hlt; cases hlt
  have nlr : lt ≠ r := fun z => by rw [z, hi2] at hlt; cases hlt
  have R3 : RsAt C rs H3 r dx d pa wa ⟨[], none⟩ := ⟨[], ⟨e3 _ _ hi2, e3 _ _ hp2, e3 _ _ hw2, hD.same (e2.trans e3), npw⟩, .nil⟩
  refine ⟨lt, rfl, ⟨_, SqL.of hl3⟩, for_list (K := K) (a := lt) (xs := (lex x).map tokV) (fun i σ H4 => ∃ (v : Option V) (m : MS), σ = [some (.ref l), some (.str (txtOf x)), some (.ref r), v] ∧ runM rs ⟨[], none⟩ ((lex x).take i) = some m ∧ RsAt C rs H4 r dx d pa wa m ∧ MOk rs m ∧ m.stk.length ≤ i ∧ H4 lt = some (.lst ((lex x).map tokV)) ∧ Same H H4) ?_ ?_ ?_ ?_⟩
  · exact ⟨none, ⟨[], none⟩, rfl, by rw [List.take_zero]; rfl, R3, ⟨True.intro, fun b z => by cases z⟩, Nat.le_refl _, hl3, e03⟩
  · rintro i σ H4 hi ⟨v, m, rfl, _, _, _, _, h4, _⟩
    exact SqL.of h4
  · rintro i v σ H4 hi ⟨v0, m, rfl, hm, R4, hok, hlen, h4, e4⟩
    rw [List.getElem?_map] at hi
    cases et : (lex x)[i]? with
    | none => rw [et] at hi; cases hi
    | some t =>
      rw [et] at hi
      have hv : tokV t = v := Option.some.inj hi
      subst hv
      have htm : t ∈ lex x := List.mem_of_getElem? et
      have hil : i < (lex x).length := (List.getElem?_eq_some_iff.mp et).1
      have hlx := lex_len x
      have hxl := hx.len
      obtain ⟨k1, k2⟩ := runM_take hm et
      obtain ⟨us, Rw, _⟩ := id R4.ex
      have sameL : ∀ H5, ButL [r, pa, wa] H4 H5 → Same H H5 := fun H5 B b u hb => B b u (by
        simp only [List.mem_cons, List.not_mem_nil, or_false, not_or]
        exact ⟨ne_of_none hb hr0, ne_of_none hb (e1.free hpa1), ne_of_none hb (e1.free hwa1)⟩) (e4 b u hb)
      refine ⟨_, rfl, r, dx, _, rfl, Rw.ins, rfl, _, rfl, r, dx, d, pa, wa, m, t, rfl, R4, hok.stk, hf, toks_ok hx t htm, by omega, fun m' e H5 B5 R5 => ?_, fun e H5 B5 => bad (k1 e) H5 (sameL H5 B5)⟩
      refine ⟨_, m', rfl, k2 m' e, R5, (stepM_ok hf hok e).1, ?_, B5 _ _ (by simp only [List.mem_cons, List.not_mem_nil, or_false, not_or]; exact ⟨nlr, nlp, nlw⟩) h4, sameL H5 B5⟩
      have := stepM_len e
      omega
  · rintro σ H4 ⟨v0, m, rfl, hm, R4, hok, hlen, h4, e4⟩
    rw [List.length_map] at hm hlen
    rw [List.take_length] at hm
    have hrd : readM rs (lex x) = finM m := by unfold readM; rw [hm]; rfl
    have hlx := lex_len x
    have hxl := hx.len
    obtain ⟨us, Rw, _⟩ := id R4.ex
    have sameL : ∀ H5, ButL [r, pa, wa] H4 H5 → Same H H5 := fun H5 B b u hb => B b u (by
      simp only [List.mem_cons, List.not_mem_nil, or_false, not_or]
      exact ⟨ne_of_none hb hr0, ne_of_none hb (e1.free hpa1), ne_of_none hb (e1.free hwa1)⟩) (e4 b u hb)
    exact ⟨_, rfl, r, dx, _, rfl, Rw.ins, rfl, r, dx, d, pa, wa, m, rfl, R4, hok.stk, hf, by omega, fun b hb v H5 B5 hT => good b (hrd.trans hb) v H5 hT (sameL H5 B5), fun hb H5 B5 => bad (hrd.trans hb) H5 (sameL H5 B5)⟩
theorem fine_short {rs : List Row} (hf : Fine rs) : ShortR rs := fun r hr => by
  have a1 : ∀ s ∈ signMenu, ShortT s := by unfold ShortT; decide +kernel
  have a2 : ∀ s ∈ sideMenu, ShortT s := by unfold ShortT; decide +kernel
  exact ⟨a1 _ (hf.sign r hr), a2 _ (hf.side r hr)⟩
/-- of a fine table -/
theorem read_ok {k : Nat} {f : Addr} {fd : FuncData} (G : FnOk P w K mg base (CX1 P w) k f fd psRead (spRead CN CT CM CL)) : FnOk P w K mg base (CX1 P w) k f fd psRead (spReadOk CL) := by
  refine G.imp fun vs H Q E h => ?_
  obtain ⟨l, rs, x, rfl, ht, hf, hl, hx, hq⟩ := h
  have fi := fine_iff.mp hf
  refine ⟨l, rs, x, rfl, ht, fine_short hf, Nat.le_trans hl (by decide), hx, fun _ => ?_, fun z => absurd fi.1 z, fun _ z => absurd fi.2.1 z, fun _ _ z => absurd fi.2.2 z⟩
  rcases hq with ⟨t, hr, q⟩ | ⟨hn, q⟩
  · refine ⟨fun t' hr' v H' hT e => ?_, fun z => absurd hr (z t)⟩
    obtain ⟨b, hb, rfl⟩ := (reads_machine hf x t).mp hr
    obtain ⟨b', hb', rfl⟩ := (reads_machine hf x t').mp hr'
    rw [hb] at hb'; cases hb'
    exact q v H' hT e
  · exact ⟨fun t hr => absurd hr (hn t), fun _ => q⟩
end
end K05

namespace K05
open PySem L2 Fb PyProof.Rows
theorem us1 {us : List Value} (h : us.length = 1) : ∃ a, us = [a] := match us, h with
  | [a], _ => ⟨a, rfl⟩
theorem us2 {us : List Value} (h : us.length = 2) : ∃ a b, us = [a, b] := match us, h with
  | [a, b], _ => ⟨a, b, rfl⟩
theorem us3 {us : List Value} (h : us.length = 3) : ∃ a b c, us = [a, b, c] := match us, h with
  | [a, b, c], _ => ⟨a, b, c, rfl⟩
set_option genInjectivity false in
set_option genSizeOf false in
structure Adr where
  f0 : Addr
  d0 : FuncData
  f1 : Addr
  d1 : FuncData
  f2 : Addr
  d2 : FuncData
  f3 : Addr
  d3 : FuncData
  f4 : Addr
  d4 : FuncData
  f5 : Addr
  d5 : FuncData
  f6 : Addr
  d6 : FuncData
  f7 : Addr
  d7 : FuncData
  f8 : Addr
  d8 : FuncData
  f9 : Addr
  d9 : FuncData
  f10 : Addr
  d10 : FuncData
  f11 : Addr
  d11 : FuncData
  f12 : Addr
  d12 : FuncData
  f13 : Addr
  d13 : FuncData
  f14 : Addr
  d14 : FuncData
  f15 : Addr
  d15 : FuncData
  f16 : Addr
  d16 : FuncData
  f17 : Addr
  d17 : FuncData
  f18 : Addr
  d18 : FuncData
  f19 : Addr
  d19 : FuncData
  g0 : Addr
  h0 : FuncData
  g1 : Addr
  h1 : FuncData
  g2 : Addr
  h2 : FuncData
  g3 : Addr
  h3 : FuncData
  g4 : Addr
  h4 : FuncData
  g5 : Addr
  h5 : FuncData
  g6 : Addr
  h6 : FuncData
  g7 : Addr
  h7 : FuncData
  g8 : Addr
  h8 : FuncData
  g9 : Addr
  h9 : FuncData
  g10 : Addr
  h10 : FuncData
  g11 : Addr
  h11 : FuncData
  cC : Addr
  eBracketError : Addr
  eNoTable : Addr
  eTwiceThere : Addr
  eMixedSides : Addr
  eNoLine : Addr
  tSIGNS : Addr
  tSIDES : Addr
  sLETTERS : PySem.Tok
  sFIGURES : PySem.Tok
structure Text (K : PySem.W.Frag) (mg : Str → Option Value) (t : Adr) : Prop where
  F0 : Fun K "check_table" "check_table" sCheck t.f0 t.d0
  m0 : mg "check_table" = some (.ref t.f0)
  b0 : Binds K t.d0 ["table"] []
  F1 : Fun K "check_words" "check_words" sWords t.f1 t.d1
  m1 : mg "check_words" = some (.ref t.f1)
  b1 : Binds K t.d1 ["table"] []
  F2 : Fun K "check_no_sign_twice" "check_no_sign_twice" sTwice t.f2 t.d2
  m2 : mg "check_no_sign_twice" = some (.ref t.f2)
  b2 : Binds K t.d2 ["table"] []
  F3 : Fun K "check_one_side_a_rank" "check_one_side_a_rank" sOne t.f3 t.d3
  m3 : mg "check_one_side_a_rank" = some (.ref t.f3)
  b3 : Binds K t.d3 ["table"] []
  F4 : Fun K "rows_by_sign" "rows_by_sign" sRows t.f4 t.d4
  m4 : mg "rows_by_sign" = some (.ref t.f4)
  b4 : Binds K t.d4 ["table"] []
  F5 : Fun K "end_of_run" "end_of_run" sRun t.f5 t.d5
  m5 : mg "end_of_run" = some (.ref t.f5)
  b5 : Binds K t.d5 ["line", "start", "run"] []
  F6 : Fun K "end_of_token" "end_of_token" sEnd t.f6 t.d6
  m6 : mg "end_of_token" = some (.ref t.f6)
  b6 : Binds K t.d6 ["line", "start"] []
  F7 : Fun K "tokens_of" "tokens_of" sToks t.f7 t.d7
  m7 : mg "tokens_of" = some (.ref t.f7)
  b7 : Binds K t.d7 ["line"] []
  F8 : Fun K "leaf_of" "leaf_of" sLeaf t.f8 t.d8
  m8 : mg "leaf_of" = some (.ref t.f8)
  b8 : Binds K t.d8 ["token"] []
  F9 : Fun K "read" "read" sRead t.f9 t.d9
  m9 : mg "read" = some (.ref t.f9)
  b9 : Binds K t.d9 ["table", "line"] []
  F10 : Fun K "_law_draw" "_law_draw" sDraw t.f10 t.d10
  m10 : mg "_law_draw" = some (.ref t.f10)
  b10 : Binds K t.d10 ["_law_number", "_law_prime", "_law_many"] []
  F11 : Fun K "_law_at" "_law_at" sAt t.f11 t.d11
  m11 : mg "_law_at" = some (.ref t.f11)
  b11 : Binds K t.d11 ["_law_script", "_law_k"] []
  F12 : Fun K "_law_ranked" "_law_ranked" sRanked t.f12 t.d12
  m12 : mg "_law_ranked" = some (.ref t.f12)
  b12 : Binds K t.d12 ["_law_seed"] []
  F13 : Fun K "_law_whole" "_law_whole" sWhole t.f13 t.d13
  m13 : mg "_law_whole" = some (.ref t.f13)
  b13 : Binds K t.d13 ["_law_found"] []
  F14 : Fun K "_law_budded" "_law_budded" sBud t.f14 t.d14
  m14 : mg "_law_budded" = some (.ref t.f14)
  b14 : Binds K t.d14 ["_law_seed"] []
  F15 : Fun K "_law_flat" "_law_flat" sFlat t.f15 t.d15
  m15 : mg "_law_flat" = some (.ref t.f15)
  b15 : Binds K t.d15 ["_law_tree"] []
  F16 : Fun K "_law_matched" "_law_matched" sMatched t.f16 t.d16
  m16 : mg "_law_matched" = some (.ref t.f16)
  b16 : Binds K t.d16 ["_law_found", "_law_due"] []
  F17 : Fun K "_law_clash" "_law_clash" sClash t.f17 t.d17
  m17 : mg "_law_clash" = some (.ref t.f17)
  b17 : Binds K t.d17 ["_law_signs", "_law_ranks", "_law_sides"] []
  F18 : Fun K "_law_binds" "_law_binds" sBinds t.f18 t.d18
  m18 : mg "_law_binds" = some (.ref t.f18)
  b18 : Binds K t.d18 ["_law_tree", "_law_ranks", "_law_sides"] []
  F19 : Fun K "law" "law" sLaw t.f19 t.d19
  m19 : mg "law" = some (.ref t.f19)
  b19 : Binds K t.d19 ["_law_script"] []
  G0 : Fun K "__init__" "Reader.__init__" sInit t.g0 t.h0
  M0 : Meth K t.cC "__init__" t.g0
  B0 : Binds K t.h0 ["self", "rows"] []
  G1 : Fun K "take" "Reader.take" sTake t.g1 t.h1
  M1 : Meth K t.cC "take" t.g1
  B1 : Binds K t.h1 ["self", "token"] []
  G2 : Fun K "begin_brackets" "Reader.begin_brackets" sBegin t.g2 t.h2
  M2 : Meth K t.cC "begin_brackets" t.g2
  B2 : Binds K t.h2 ["self"] []
  G3 : Fun K "end_brackets" "Reader.end_brackets" sClose t.g3 t.h3
  M3 : Meth K t.cC "end_brackets" t.g3
  B3 : Binds K t.h3 ["self"] []
  G4 : Fun K "take_sign" "Reader.take_sign" sSign t.g4 t.h4
  M4 : Meth K t.cC "take_sign" t.g4
  B4 : Binds K t.h4 ["self", "sign"] []
  G5 : Fun K "take_leaf" "Reader.take_leaf" sTLeaf t.g5 t.h5
  M5 : Meth K t.cC "take_leaf" t.g5
  B5 : Binds K t.h5 ["self", "token"] []
  G6 : Fun K "whole" "Reader.whole" sRWhole t.g6 t.h6
  M6 : Meth K t.cC "whole" t.g6
  B6 : Binds K t.h6 ["self"] []
  G7 : Fun K "check_part_is_due" "Reader.check_part_is_due" sDue t.g7 t.h7
  M7 : Meth K t.cC "check_part_is_due" t.g7
  B7 : Binds K t.h7 ["self", "token"] []
  G8 : Fun K "check_part_is_there" "Reader.check_part_is_there" sThere t.g8 t.h8
  M8 : Meth K t.cC "check_part_is_there" t.g8
  B8 : Binds K t.h8 ["self"] []
  G9 : Fun K "goes_ahead" "Reader.goes_ahead" sAhead t.g9 t.h9
  M9 : Meth K t.cC "goes_ahead" t.g9
  B9 : Binds K t.h9 ["self", "earlier", "later"] []
  G10 : Fun K "put_all_together" "Reader.put_all_together" sPutAll t.g10 t.h10
  M10 : Meth K t.cC "put_all_together" t.g10
  B10 : Binds K t.h10 ["self"] []
  G11 : Fun K "put_together" "Reader.put_together" sPut t.g11 t.h11
  M11 : Meth K t.cC "put_together" t.g11
  B11 : Binds K t.h11 ["self"] []
  cl : Cls K t.cC
  mc : mg "Reader" = some (.ref t.cC)
  mkC : Mk K t.cC t.g0
  n_rows : NoAttr K t.cC "rows"
  n_parts : NoAttr K t.cC "parts"
  n_waiting : NoAttr K t.cC "waiting"
  n_part_due : NoAttr K t.cC "part_due"
  EBracketError : ExcCls K mg "BracketError" t.eBracketError
  ENoTable : ExcCls K mg "NoTable" t.eNoTable
  ETwiceThere : ExcCls K mg "TwiceThere" t.eTwiceThere
  EMixedSides : ExcCls K mg "MixedSides" t.eMixedSides
  ENoLine : ExcCls K mg "NoLine" t.eNoLine
  INoLine : ExcIs K t.eNoLine
  oNoLine_NoLine : PySem.W.kitOne K (.ref t.eNoLine) (.ref t.eNoLine) = some true
  xNoLine_BracketError : PySem.W.exmOne K (.ref t.eNoLine) (.ref t.eBracketError) = some true
  TSIGNS : mg "SIGNS" = some (.ref t.tSIGNS)
  QSIGNS : ∀ H : Hp, SqT K H t.tSIGNS (signsPy.map V.str)
  TSIDES : mg "SIDES" = some (.ref t.tSIDES)
  QSIDES : ∀ H : Hp, SqT K H t.tSIDES (sideMenu.map V.str)
  SLETTERS : mg "LETTERS" = some (.str lettersT t.sLETTERS)
  SFIGURES : mg "FIGURES" = some (.str figuresT t.sFIGURES)
  nlen : mg "len" = none
  nrange : mg "range" = none
  nisinstance : mg "isinstance" = none
  nint : mg "int" = none
  nstr : mg "str" = none
  nlist : mg "list" = none
  ndict : mg "dict" = none
  nbool : mg "bool" = none
  ntuple : mg "tuple" = none
  nmin : mg "min" = none
  kint_int : PySem.W.kitOne K (.type "int") (.type "int") = some true
  kint_bool : PySem.W.kitOne K (.type "int") (.type "bool") = some false
  kint_str : PySem.W.kitOne K (.type "int") (.type "str") = some false
  kint_tuple : PySem.W.kitOne K (.type "int") (.type "tuple") = some false
  kstr_int : PySem.W.kitOne K (.type "str") (.type "int") = some false
  kstr_str : PySem.W.kitOne K (.type "str") (.type "str") = some true
  kstr_tuple : PySem.W.kitOne K (.type "str") (.type "tuple") = some false
  ktuple_int : PySem.W.kitOne K (.type "tuple") (.type "int") = some false
  ktuple_str : PySem.W.kitOne K (.type "tuple") (.type "str") = some false
  ktuple_tuple : PySem.W.kitOne K (.type "tuple") (.type "tuple") = some true
theorem txt_mk {K : PySem.W.Frag} {h : Heap} {mg : Str → Option Value}
    {f0 f1 f2 f3 f4 f5 f6 f7 f8 f9 f10 f11 f12 f13 f14 f15 f16 f17 f18 f19 g0 g1 g2 g3 g4 g5 g6 g7 g8 g9 g10 g11 cC eBracketError eNoTable eTwiceThere eMixedSides eNoLine tSIGNS tSIDES : Addr}
    {sLETTERS sFIGURES : PySem.Tok}
    {od0 an0 od1 an1 od2 an2 od3 an3 od4 an4 od5 an5 od6 an6 od7 an7 od8 an8 od9 an9 od10 an10 od11 an11 od12 an12 od13 an13 od14 an14 od15 an15 od16 an16 od17 an17 od18 an18 od19 an19 odm0 anm0 odm1 anm1 odm2 anm2 odm3 anm3 odm4 anm4 odm5 anm5 odm6 anm6 odm7 anm7 odm8 anm8 odm9 anm9 odm10 anm10 odm11 anm11 : Option Addr} {sl0 sl1 sl2 sl3 sl4 sl5 sl6 sl7 sl8 sl9 sl10 sl11 sl12 sl13 sl14 sl15 sl16 sl17 sl18 sl19 slm0 slm1 slm2 slm3 slm4 slm5 slm6 slm7 slm8 slm9 slm10 slm11 : Array (Option Value)}
    {oc0 kV0 dc0 pm0 cd0 ct0 oc1 kV1 dc1 pm1 cd1 ct1 oc2 kV2 dc2 pm2 cd2 ct2 oc3 kV3 dc3 pm3 cd3 ct3 oc4 kV4 dc4 pm4 cd4 ct4 oc5 kV5 dc5 pm5 cd5 ct5 oc6 kV6 dc6 pm6 cd6 ct6 oc7 kV7 dc7 pm7 cd7 ct7 oc8 kV8 dc8 pm8 cd8 ct8 oc9 kV9 dc9 pm9 cd9 ct9 oc10 kV10 dc10 pm10 cd10 ct10 oc11 kV11 dc11 pm11 cd11 ct11 oc12 kV12 dc12 pm12 cd12 ct12 oc13 kV13 dc13 pm13 cd13 ct13 oc14 kV14 dc14 pm14 cd14 ct14 oc15 kV15 dc15 pm15 cd15 ct15 oc16 kV16 dc16 pm16 cd16 ct16 oc17 kV17 dc17 pm17 cd17 ct17 oc18 kV18 dc18 pm18 cd18 ct18 oc19 kV19 dc19 pm19 cd19 ct19 ocm0 kVm0 dcm0 pmm0 cdm0 ctm0 ocm1 kVm1 dcm1 pmm1 cdm1 ctm1 ocm2 kVm2 dcm2 pmm2 cdm2 ctm2 ocm3 kVm3 dcm3 pmm3 cdm3 ctm3 ocm4 kVm4 dcm4 pmm4 cdm4 ctm4 ocm5 kVm5 dcm5 pmm5 cdm5 ctm5 ocm6 kVm6 dcm6 pmm6 cdm6 ctm6 ocm7 kVm7 dcm7 pmm7 cdm7 ctm7 ocm8 kVm8 dcm8 pmm8 cdm8 ctm8 ocm9 kVm9 dcm9 pmm9 cdm9 ctm9 ocm10 kVm10 dcm10 pmm10 cdm10 ctm10 ocm11 kVm11 dcm11 pmm11 cdm11 ctm11 : Value}
    {qSIGNS0 qSIGNS1 qSIGNS2 qSIGNS3 qSIGNS4 qSIGNS5 qSIGNS6 qSIGNS7 qSIGNS8 qSIGNS9 : PySem.Tok} {ddSIGNS : Option Addr} {nnSIGNS : Nat} {ssSIGNS : Array (Option Value)}
    {qSIDES0 qSIDES1 qSIDES2 : PySem.Tok} {ddSIDES : Option Addr} {nnSIDES : Nat} {ssSIDES : Array (Option Value)}
    (X : K.In h) (G : h.Ns mainGlobals mg)
    (a0 : PySem.W.nsIn K mainGlobals "check_table" = some (some (.ref f0))) (l0 : K.lookup f0 = some ⟨oc0, od0, .func (PySem.W.fnOf "check_table" "check_table" (defArgs sCheck) (defBody sCheck) (defScope sCheck) .none kV0 dc0 pm0 an0 cd0 ct0), sl0⟩) (c0 : PySem.W.codeIn K cd0 "check_table" = true) (k0 : PySem.W.keepIn K (.ref f0) = true)
    (a1 : PySem.W.nsIn K mainGlobals "check_words" = some (some (.ref f1))) (l1 : K.lookup f1 = some ⟨oc1, od1, .func (PySem.W.fnOf "check_words" "check_words" (defArgs sWords) (defBody sWords) (defScope sWords) .none kV1 dc1 pm1 an1 cd1 ct1), sl1⟩) (c1 : PySem.W.codeIn K cd1 "check_words" = true) (k1 : PySem.W.keepIn K (.ref f1) = true)
    (a2 : PySem.W.nsIn K mainGlobals "check_no_sign_twice" = some (some (.ref f2))) (l2 : K.lookup f2 = some ⟨oc2, od2, .func (PySem.W.fnOf "check_no_sign_twice" "check_no_sign_twice" (defArgs sTwice) (defBody sTwice) (defScope sTwice) .none kV2 dc2 pm2 an2 cd2 ct2), sl2⟩) (c2 : PySem.W.codeIn K cd2 "check_no_sign_twice" = true) (k2 : PySem.W.keepIn K (.ref f2) = true)
    (a3 : PySem.W.nsIn K mainGlobals "check_one_side_a_rank" = some (some (.ref f3))) (l3 : K.lookup f3 = some ⟨oc3, od3, .func (PySem.W.fnOf "check_one_side_a_rank" "check_one_side_a_rank" (defArgs sOne) (defBody sOne) (defScope sOne) .none kV3 dc3 pm3 an3 cd3 ct3), sl3⟩) (c3 : PySem.W.codeIn K cd3 "check_one_side_a_rank" = true) (k3 : PySem.W.keepIn K (.ref f3) = true)
    (a4 : PySem.W.nsIn K mainGlobals "rows_by_sign" = some (some (.ref f4))) (l4 : K.lookup f4 = some ⟨oc4, od4, .func (PySem.W.fnOf "rows_by_sign" "rows_by_sign" (defArgs sRows) (defBody sRows) (defScope sRows) .none kV4 dc4 pm4 an4 cd4 ct4), sl4⟩) (c4 : PySem.W.codeIn K cd4 "rows_by_sign" = true) (k4 : PySem.W.keepIn K (.ref f4) = true)
    (a5 : PySem.W.nsIn K mainGlobals "end_of_run" = some (some (.ref f5))) (l5 : K.lookup f5 = some ⟨oc5, od5, .func (PySem.W.fnOf "end_of_run" "end_of_run" (defArgs sRun) (defBody sRun) (defScope sRun) .none kV5 dc5 pm5 an5 cd5 ct5), sl5⟩) (c5 : PySem.W.codeIn K cd5 "end_of_run" = true) (k5 : PySem.W.keepIn K (.ref f5) = true)
    (a6 : PySem.W.nsIn K mainGlobals "end_of_token" = some (some (.ref f6))) (l6 : K.lookup f6 = some ⟨oc6, od6, .func (PySem.W.fnOf "end_of_token" "end_of_token" (defArgs sEnd) (defBody sEnd) (defScope sEnd) .none kV6 dc6 pm6 an6 cd6 ct6), sl6⟩) (c6 : PySem.W.codeIn K cd6 "end_of_token" = true) (k6 : PySem.W.keepIn K (.ref f6) = true)
    (a7 : PySem.W.nsIn K mainGlobals "tokens_of" = some (some (.ref f7))) (l7 : K.lookup f7 = some ⟨oc7, od7, .func (PySem.W.fnOf "tokens_of" "tokens_of" (defArgs sToks) (defBody sToks) (defScope sToks) .none kV7 dc7 pm7 an7 cd7 ct7), sl7⟩) (c7 : PySem.W.codeIn K cd7 "tokens_of" = true) (k7 : PySem.W.keepIn K (.ref f7) = true)
    (a8 : PySem.W.nsIn K mainGlobals "leaf_of" = some (some (.ref f8))) (l8 : K.lookup f8 = some ⟨oc8, od8, .func (PySem.W.fnOf "leaf_of" "leaf_of" (defArgs sLeaf) (defBody sLeaf) (defScope sLeaf) .none kV8 dc8 pm8 an8 cd8 ct8), sl8⟩) (c8 : PySem.W.codeIn K cd8 "leaf_of" = true) (k8 : PySem.W.keepIn K (.ref f8) = true)
    (a9 : PySem.W.nsIn K mainGlobals "read" = some (some (.ref f9))) (l9 : K.lookup f9 = some ⟨oc9, od9, .func (PySem.W.fnOf "read" "read" (defArgs sRead) (defBody sRead) (defScope sRead) .none kV9 dc9 pm9 an9 cd9 ct9), sl9⟩) (c9 : PySem.W.codeIn K cd9 "read" = true) (k9 : PySem.W.keepIn K (.ref f9) = true)
    (a10 : PySem.W.nsIn K mainGlobals "_law_draw" = some (some (.ref f10))) (l10 : K.lookup f10 = some ⟨oc10, od10, .func (PySem.W.fnOf "_law_draw" "_law_draw" (defArgs sDraw) (defBody sDraw) (defScope sDraw) .none kV10 dc10 pm10 an10 cd10 ct10), sl10⟩) (c10 : PySem.W.codeIn K cd10 "_law_draw" = true) (k10 : PySem.W.keepIn K (.ref f10) = true)
    (a11 : PySem.W.nsIn K mainGlobals "_law_at" = some (some (.ref f11))) (l11 : K.lookup f11 = some ⟨oc11, od11, .func (PySem.W.fnOf "_law_at" "_law_at" (defArgs sAt) (defBody sAt) (defScope sAt) .none kV11 dc11 pm11 an11 cd11 ct11), sl11⟩) (c11 : PySem.W.codeIn K cd11 "_law_at" = true) (k11 : PySem.W.keepIn K (.ref f11) = true)
    (a12 : PySem.W.nsIn K mainGlobals "_law_ranked" = some (some (.ref f12))) (l12 : K.lookup f12 = some ⟨oc12, od12, .func (PySem.W.fnOf "_law_ranked" "_law_ranked" (defArgs sRanked) (defBody sRanked) (defScope sRanked) .none kV12 dc12 pm12 an12 cd12 ct12), sl12⟩) (c12 : PySem.W.codeIn K cd12 "_law_ranked" = true) (k12 : PySem.W.keepIn K (.ref f12) = true)
    (a13 : PySem.W.nsIn K mainGlobals "_law_whole" = some (some (.ref f13))) (l13 : K.lookup f13 = some ⟨oc13, od13, .func (PySem.W.fnOf "_law_whole" "_law_whole" (defArgs sWhole) (defBody sWhole) (defScope sWhole) .none kV13 dc13 pm13 an13 cd13 ct13), sl13⟩) (c13 : PySem.W.codeIn K cd13 "_law_whole" = true) (k13 : PySem.W.keepIn K (.ref f13) = true)
    (a14 : PySem.W.nsIn K mainGlobals "_law_budded" = some (some (.ref f14))) (l14 : K.lookup f14 = some ⟨oc14, od14, .func (PySem.W.fnOf "_law_budded" "_law_budded" (defArgs sBud) (defBody sBud) (defScope sBud) .none kV14 dc14 pm14 an14 cd14 ct14), sl14⟩) (c14 : PySem.W.codeIn K cd14 "_law_budded" = true) (k14 : PySem.W.keepIn K (.ref f14) = true)
    (a15 : PySem.W.nsIn K mainGlobals "_law_flat" = some (some (.ref f15))) (l15 : K.lookup f15 = some ⟨oc15, od15, .func (PySem.W.fnOf "_law_flat" "_law_flat" (defArgs sFlat) (defBody sFlat) (defScope sFlat) .none kV15 dc15 pm15 an15 cd15 ct15), sl15⟩) (c15 : PySem.W.codeIn K cd15 "_law_flat" = true) (k15 : PySem.W.keepIn K (.ref f15) = true)
    (a16 : PySem.W.nsIn K mainGlobals "_law_matched" = some (some (.ref f16))) (l16 : K.lookup f16 = some ⟨oc16, od16, .func (PySem.W.fnOf "_law_matched" "_law_matched" (defArgs sMatched) (defBody sMatched) (defScope sMatched) .none kV16 dc16 pm16 an16 cd16 ct16), sl16⟩) (c16 : PySem.W.codeIn K cd16 "_law_matched" = true) (k16 : PySem.W.keepIn K (.ref f16) = true)
    (a17 : PySem.W.nsIn K mainGlobals "_law_clash" = some (some (.ref f17))) (l17 : K.lookup f17 = some ⟨oc17, od17, .func (PySem.W.fnOf "_law_clash" "_law_clash" (defArgs sClash) (defBody sClash) (defScope sClash) .none kV17 dc17 pm17 an17 cd17 ct17), sl17⟩) (c17 : PySem.W.codeIn K cd17 "_law_clash" = true) (k17 : PySem.W.keepIn K (.ref f17) = true)
    (a18 : PySem.W.nsIn K mainGlobals "_law_binds" = some (some (.ref f18))) (l18 : K.lookup f18 = some ⟨oc18, od18, .func (PySem.W.fnOf "_law_binds" "_law_binds" (defArgs sBinds) (defBody sBinds) (defScope sBinds) .none kV18 dc18 pm18 an18 cd18 ct18), sl18⟩) (c18 : PySem.W.codeIn K cd18 "_law_binds" = true) (k18 : PySem.W.keepIn K (.ref f18) = true)
    (a19 : PySem.W.nsIn K mainGlobals "law" = some (some (.ref f19))) (l19 : K.lookup f19 = some ⟨oc19, od19, .func (PySem.W.fnOf "law" "law" (defArgs sLaw) (defBody sLaw) (defScope sLaw) .none kV19 dc19 pm19 an19 cd19 ct19), sl19⟩) (c19 : PySem.W.codeIn K cd19 "law" = true) (k19 : PySem.W.keepIn K (.ref f19) = true)
    (aC : PySem.W.nsIn K mainGlobals "Reader" = some (some (.ref cC)))
    (am0 : PySem.W.findIn K (.ref cC) "__init__" = some (some (.ref g0))) (im0 : PySem.W.isFn K (.ref g0) = true) (lm0 : K.lookup g0 = some ⟨ocm0, odm0, .func (PySem.W.fnOf "__init__" "Reader.__init__" (defArgs sInit) (defBody sInit) (defScope sInit) .none kVm0 dcm0 pmm0 anm0 cdm0 ctm0), slm0⟩) (cm0 : PySem.W.codeIn K cdm0 "Reader.__init__" = true) (km0 : PySem.W.keepIn K (.ref g0) = true)
    (am1 : PySem.W.findIn K (.ref cC) "take" = some (some (.ref g1))) (im1 : PySem.W.isFn K (.ref g1) = true) (lm1 : K.lookup g1 = some ⟨ocm1, odm1, .func (PySem.W.fnOf "take" "Reader.take" (defArgs sTake) (defBody sTake) (defScope sTake) .none kVm1 dcm1 pmm1 anm1 cdm1 ctm1), slm1⟩) (cm1 : PySem.W.codeIn K cdm1 "Reader.take" = true) (km1 : PySem.W.keepIn K (.ref g1) = true)
    (am2 : PySem.W.findIn K (.ref cC) "begin_brackets" = some (some (.ref g2))) (im2 : PySem.W.isFn K (.ref g2) = true) (lm2 : K.lookup g2 = some ⟨ocm2, odm2, .func (PySem.W.fnOf "begin_brackets" "Reader.begin_brackets" (defArgs sBegin) (defBody sBegin) (defScope sBegin) .none kVm2 dcm2 pmm2 anm2 cdm2 ctm2), slm2⟩) (cm2 : PySem.W.codeIn K cdm2 "Reader.begin_brackets" = true) (km2 : PySem.W.keepIn K (.ref g2) = true)
    (am3 : PySem.W.findIn K (.ref cC) "end_brackets" = some (some (.ref g3))) (im3 : PySem.W.isFn K (.ref g3) = true) (lm3 : K.lookup g3 = some ⟨ocm3, odm3, .func (PySem.W.fnOf "end_brackets" "Reader.end_brackets" (defArgs sClose) (defBody sClose) (defScope sClose) .none kVm3 dcm3 pmm3 anm3 cdm3 ctm3), slm3⟩) (cm3 : PySem.W.codeIn K cdm3 "Reader.end_brackets" = true) (km3 : PySem.W.keepIn K (.ref g3) = true)
    (am4 : PySem.W.findIn K (.ref cC) "take_sign" = some (some (.ref g4))) (im4 : PySem.W.isFn K (.ref g4) = true) (lm4 : K.lookup g4 = some ⟨ocm4, odm4, .func (PySem.W.fnOf "take_sign" "Reader.take_sign" (defArgs sSign) (defBody sSign) (defScope sSign) .none kVm4 dcm4 pmm4 anm4 cdm4 ctm4), slm4⟩) (cm4 : PySem.W.codeIn K cdm4 "Reader.take_sign" = true) (km4 : PySem.W.keepIn K (.ref g4) = true)
    (am5 : PySem.W.findIn K (.ref cC) "take_leaf" = some (some (.ref g5))) (im5 : PySem.W.isFn K (.ref g5) = true) (lm5 : K.lookup g5 = some ⟨ocm5, odm5, .func (PySem.W.fnOf "take_leaf" "Reader.take_leaf" (defArgs sTLeaf) (defBody sTLeaf) (defScope sTLeaf) .none kVm5 dcm5 pmm5 anm5 cdm5 ctm5), slm5⟩) (cm5 : PySem.W.codeIn K cdm5 "Reader.take_leaf" = true) (km5 : PySem.W.keepIn K (.ref g5) = true)
    (am6 : PySem.W.findIn K (.ref cC) "whole" = some (some (.ref g6))) (im6 : PySem.W.isFn K (.ref g6) = true) (lm6 : K.lookup g6 = some ⟨ocm6, odm6, .func (PySem.W.fnOf "whole" "Reader.whole" (defArgs sRWhole) (defBody sRWhole) (defScope sRWhole) .none kVm6 dcm6 pmm6 anm6 cdm6 ctm6), slm6⟩) (cm6 : PySem.W.codeIn K cdm6 "Reader.whole" = true) (km6 : PySem.W.keepIn K (.ref g6) = true)
    (am7 : PySem.W.findIn K (.ref cC) "check_part_is_due" = some (some (.ref g7))) (im7 : PySem.W.isFn K (.ref g7) = true) (lm7 : K.lookup g7 = some ⟨ocm7, odm7, .func (PySem.W.fnOf "check_part_is_due" "Reader.check_part_is_due" (defArgs sDue) (defBody sDue) (defScope sDue) .none kVm7 dcm7 pmm7 anm7 cdm7 ctm7), slm7⟩) (cm7 : PySem.W.codeIn K cdm7 "Reader.check_part_is_due" = true) (km7 : PySem.W.keepIn K (.ref g7) = true)
    (am8 : PySem.W.findIn K (.ref cC) "check_part_is_there" = some (some (.ref g8))) (im8 : PySem.W.isFn K (.ref g8) = true) (lm8 : K.lookup g8 = some ⟨ocm8, odm8, .func (PySem.W.fnOf "check_part_is_there" "Reader.check_part_is_there" (defArgs sThere) (defBody sThere) (defScope sThere) .none kVm8 dcm8 pmm8 anm8 cdm8 ctm8), slm8⟩) (cm8 : PySem.W.codeIn K cdm8 "Reader.check_part_is_there" = true) (km8 : PySem.W.keepIn K (.ref g8) = true)
    (am9 : PySem.W.findIn K (.ref cC) "goes_ahead" = some (some (.ref g9))) (im9 : PySem.W.isFn K (.ref g9) = true) (lm9 : K.lookup g9 = some ⟨ocm9, odm9, .func (PySem.W.fnOf "goes_ahead" "Reader.goes_ahead" (defArgs sAhead) (defBody sAhead) (defScope sAhead) .none kVm9 dcm9 pmm9 anm9 cdm9 ctm9), slm9⟩) (cm9 : PySem.W.codeIn K cdm9 "Reader.goes_ahead" = true) (km9 : PySem.W.keepIn K (.ref g9) = true)
    (am10 : PySem.W.findIn K (.ref cC) "put_all_together" = some (some (.ref g10))) (im10 : PySem.W.isFn K (.ref g10) = true) (lm10 : K.lookup g10 = some ⟨ocm10, odm10, .func (PySem.W.fnOf "put_all_together" "Reader.put_all_together" (defArgs sPutAll) (defBody sPutAll) (defScope sPutAll) .none kVm10 dcm10 pmm10 anm10 cdm10 ctm10), slm10⟩) (cm10 : PySem.W.codeIn K cdm10 "Reader.put_all_together" = true) (km10 : PySem.W.keepIn K (.ref g10) = true)
    (am11 : PySem.W.findIn K (.ref cC) "put_together" = some (some (.ref g11))) (im11 : PySem.W.isFn K (.ref g11) = true) (lm11 : K.lookup g11 = some ⟨ocm11, odm11, .func (PySem.W.fnOf "put_together" "Reader.put_together" (defArgs sPut) (defBody sPut) (defScope sPut) .none kVm11 dcm11 pmm11 anm11 cdm11 ctm11), slm11⟩) (cm11 : PySem.W.codeIn K cdm11 "Reader.put_together" = true) (km11 : PySem.W.keepIn K (.ref g11) = true)
    (pg : PySem.W.plainGet K cC Str.empty = true) (hdC : PySem.W.hasDictIn K cC = true) (po : PySem.W.plainOver K cC = true) (sa : PySem.W.findIn K (.ref cC) "__setattr__" = some (some (.builtin "object.__setattr__"))) (mk : PySem.W.makesIn K cC = true) (kc : PySem.W.keepIn K (.ref cC) = true)
    (nf_rows : PySem.W.findIn K (.ref cC) "rows" = some none)
    (nf_parts : PySem.W.findIn K (.ref cC) "parts" = some none)
    (nf_waiting : PySem.W.findIn K (.ref cC) "waiting" = some none)
    (nf_part_due : PySem.W.findIn K (.ref cC) "part_due" = some none)
    (anBracketError : PySem.W.nsIn K mainGlobals "BracketError" = some (some (.ref eBracketError))) (x1BracketError : PySem.W.excIn K eBracketError [.type "ValueError", .type "Exception", .type "BaseException", .type "object"] "ValueError.__new__" = true)
    (anNoTable : PySem.W.nsIn K mainGlobals "NoTable" = some (some (.ref eNoTable))) (x1NoTable : PySem.W.excIn K eNoTable [.type "ValueError", .type "Exception", .type "BaseException", .type "object"] "ValueError.__new__" = true)
    (anTwiceThere : PySem.W.nsIn K mainGlobals "TwiceThere" = some (some (.ref eTwiceThere))) (x1TwiceThere : PySem.W.excIn K eTwiceThere [.type "ValueError", .type "Exception", .type "BaseException", .type "object"] "ValueError.__new__" = true)
    (anMixedSides : PySem.W.nsIn K mainGlobals "MixedSides" = some (some (.ref eMixedSides))) (x1MixedSides : PySem.W.excIn K eMixedSides [.type "ValueError", .type "Exception", .type "BaseException", .type "object"] "ValueError.__new__" = true)
    (anNoLine : PySem.W.nsIn K mainGlobals "NoLine" = some (some (.ref eNoLine))) (x1NoLine : PySem.W.excIn K eNoLine [.type "ValueError", .type "Exception", .type "BaseException", .type "object"] "ValueError.__new__" = true)
    (x2NoLine : PySem.W.hasDictIn K eNoLine = true) (x3NoLine : PySem.W.findIn K (.ref eNoLine) "__getattribute__" = some (some (.builtin "BaseException.__getattribute__"))) (x4NoLine : PySem.W.findIn K (.ref eNoLine) "__getattr__" = some none) (x5NoLine : PySem.W.findIn K (.ref eNoLine) "__class__" = some (some (.builtin "object.__class__"))) (x6NoLine : PySem.W.specialIn K (.builtin "object.__class__") "__get__" = some (some (.builtin "getset_descriptor.__get__"))) (x7NoLine : PySem.W.takesIn K (.builtin "object.__class__") = some true) (x8NoLine : PySem.W.subIn K (.ref eNoLine) (.type "BaseException") = some true) (x9NoLine : PySem.W.mroIn K eNoLine (.type "object") = some true)
    (oNoLine_NoLine : PySem.W.kitOne K (.ref eNoLine) (.ref eNoLine) = some true)
    (xNoLine_BracketError : PySem.W.exmOne K (.ref eNoLine) (.ref eBracketError) = some true)
    (atSIGNS : PySem.W.nsIn K mainGlobals "SIGNS" = some (some (.ref tSIGNS))) (ltSIGNS : K.lookup tSIGNS = some ⟨.type "tuple", ddSIGNS, .seq #[.str (signsPy.getD 0 "") qSIGNS0, .str (signsPy.getD 1 "") qSIGNS1, .str (signsPy.getD 2 "") qSIGNS2, .str (signsPy.getD 3 "") qSIGNS3, .str (signsPy.getD 4 "") qSIGNS4, .str (signsPy.getD 5 "") qSIGNS5, .str (signsPy.getD 6 "") qSIGNS6, .str (signsPy.getD 7 "") qSIGNS7, .str (signsPy.getD 8 "") qSIGNS8, .str (signsPy.getD 9 "") qSIGNS9] nnSIGNS, ssSIGNS⟩)
    (atSIDES : PySem.W.nsIn K mainGlobals "SIDES" = some (some (.ref tSIDES))) (ltSIDES : K.lookup tSIDES = some ⟨.type "tuple", ddSIDES, .seq #[.str (sideMenu.getD 0 "") qSIDES0, .str (sideMenu.getD 1 "") qSIDES1, .str (sideMenu.getD 2 "") qSIDES2] nnSIDES, ssSIDES⟩)
    (asLETTERS : PySem.W.nsIn K mainGlobals "LETTERS" = some (some (.str lettersT sLETTERS)))
    (asFIGURES : PySem.W.nsIn K mainGlobals "FIGURES" = some (some (.str figuresT sFIGURES)))
    (nlen : PySem.W.nsIn K mainGlobals "len" = some none)
    (nrange : PySem.W.nsIn K mainGlobals "range" = some none)
    (nisinstance : PySem.W.nsIn K mainGlobals "isinstance" = some none)
    (nint : PySem.W.nsIn K mainGlobals "int" = some none)
    (nstr : PySem.W.nsIn K mainGlobals "str" = some none)
    (nlist : PySem.W.nsIn K mainGlobals "list" = some none)
    (ndict : PySem.W.nsIn K mainGlobals "dict" = some none)
    (nbool : PySem.W.nsIn K mainGlobals "bool" = some none)
    (ntuple : PySem.W.nsIn K mainGlobals "tuple" = some none)
    (nmin : PySem.W.nsIn K mainGlobals "min" = some none)
    (kint_int : PySem.W.kitOne K (.type "int") (.type "int") = some true)
    (kint_bool : PySem.W.kitOne K (.type "int") (.type "bool") = some false)
    (kint_str : PySem.W.kitOne K (.type "int") (.type "str") = some false)
    (kint_tuple : PySem.W.kitOne K (.type "int") (.type "tuple") = some false)
    (kstr_int : PySem.W.kitOne K (.type "str") (.type "int") = some false)
    (kstr_str : PySem.W.kitOne K (.type "str") (.type "str") = some true)
    (kstr_tuple : PySem.W.kitOne K (.type "str") (.type "tuple") = some false)
    (ktuple_int : PySem.W.kitOne K (.type "tuple") (.type "int") = some false)
    (ktuple_str : PySem.W.kitOne K (.type "tuple") (.type "str") = some false)
    (ktuple_tuple : PySem.W.kitOne K (.type "tuple") (.type "tuple") = some true)
    : ∃ t, Text K mg t := by
  have F0 := fun_mk (st := sCheck) l0 c0 k0
  have F1 := fun_mk (st := sWords) l1 c1 k1
  have F2 := fun_mk (st := sTwice) l2 c2 k2
  have F3 := fun_mk (st := sOne) l3 c3 k3
  have F4 := fun_mk (st := sRows) l4 c4 k4
  have F5 := fun_mk (st := sRun) l5 c5 k5
  have F6 := fun_mk (st := sEnd) l6 c6 k6
  have F7 := fun_mk (st := sToks) l7 c7 k7
  have F8 := fun_mk (st := sLeaf) l8 c8 k8
  have F9 := fun_mk (st := sRead) l9 c9 k9
  have F10 := fun_mk (st := sDraw) l10 c10 k10
  have F11 := fun_mk (st := sAt) l11 c11 k11
  have F12 := fun_mk (st := sRanked) l12 c12 k12
  have F13 := fun_mk (st := sWhole) l13 c13 k13
  have F14 := fun_mk (st := sBud) l14 c14 k14
  have F15 := fun_mk (st := sFlat) l15 c15 k15
  have F16 := fun_mk (st := sMatched) l16 c16 k16
  have F17 := fun_mk (st := sClash) l17 c17 k17
  have F18 := fun_mk (st := sBinds) l18 c18 k18
  have F19 := fun_mk (st := sLaw) l19 c19 k19
  have G0 := fun_mk (st := sInit) lm0 cm0 km0
  have G1 := fun_mk (st := sTake) lm1 cm1 km1
  have G2 := fun_mk (st := sBegin) lm2 cm2 km2
  have G3 := fun_mk (st := sClose) lm3 cm3 km3
  have G4 := fun_mk (st := sSign) lm4 cm4 km4
  have G5 := fun_mk (st := sTLeaf) lm5 cm5 km5
  have G6 := fun_mk (st := sRWhole) lm6 cm6 km6
  have G7 := fun_mk (st := sDue) lm7 cm7 km7
  have G8 := fun_mk (st := sThere) lm8 cm8 km8
  have G9 := fun_mk (st := sAhead) lm9 cm9 km9
  have G10 := fun_mk (st := sPutAll) lm10 cm10 km10
  have G11 := fun_mk (st := sPut) lm11 cm11 km11
  refine ⟨⟨f0, PySem.W.fnOf "check_table" "check_table" (defArgs sCheck) (defBody sCheck) (defScope sCheck) .none kV0 dc0 pm0 an0 cd0 ct0, f1, PySem.W.fnOf "check_words" "check_words" (defArgs sWords) (defBody sWords) (defScope sWords) .none kV1 dc1 pm1 an1 cd1 ct1, f2, PySem.W.fnOf "check_no_sign_twice" "check_no_sign_twice" (defArgs sTwice) (defBody sTwice) (defScope sTwice) .none kV2 dc2 pm2 an2 cd2 ct2, f3, PySem.W.fnOf "check_one_side_a_rank" "check_one_side_a_rank" (defArgs sOne) (defBody sOne) (defScope sOne) .none kV3 dc3 pm3 an3 cd3 ct3, f4, PySem.W.fnOf "rows_by_sign" "rows_by_sign" (defArgs sRows) (defBody sRows) (defScope sRows) .none kV4 dc4 pm4 an4 cd4 ct4, f5, PySem.W.fnOf "end_of_run" "end_of_run" (defArgs sRun) (defBody sRun) (defScope sRun) .none kV5 dc5 pm5 an5 cd5 ct5, f6, PySem.W.fnOf "end_of_token" "end_of_token" (defArgs sEnd) (defBody sEnd) (defScope sEnd) .none kV6 dc6 pm6 an6 cd6 ct6, f7, PySem.W.fnOf "tokens_of" "tokens_of" (defArgs sToks) (defBody sToks) (defScope sToks) .none kV7 dc7 pm7 an7 cd7 ct7, f8, PySem.W.fnOf "leaf_of" "leaf_of" (defArgs sLeaf) (defBody sLeaf) (defScope sLeaf) .none kV8 dc8 pm8 an8 cd8 ct8, f9, PySem.W.fnOf "read" "read" (defArgs sRead) (defBody sRead) (defScope sRead) .none kV9 dc9 pm9 an9 cd9 ct9, f10, PySem.W.fnOf "_law_draw" "_law_draw" (defArgs sDraw) (defBody sDraw) (defScope sDraw) .none kV10 dc10 pm10 an10 cd10 ct10, f11, PySem.W.fnOf "_law_at" "_law_at" (defArgs sAt) (defBody sAt) (defScope sAt) .none kV11 dc11 pm11 an11 cd11 ct11, f12, PySem.W.fnOf "_law_ranked" "_law_ranked" (defArgs sRanked) (defBody sRanked) (defScope sRanked) .none kV12 dc12 pm12 an12 cd12 ct12, f13, PySem.W.fnOf "_law_whole" "_law_whole" (defArgs sWhole) (defBody sWhole) (defScope sWhole) .none kV13 dc13 pm13 an13 cd13 ct13, f14, PySem.W.fnOf "_law_budded" "_law_budded" (defArgs sBud) (defBody sBud) (defScope sBud) .none kV14 dc14 pm14 an14 cd14 ct14, f15, PySem.W.fnOf "_law_flat" "_law_flat" (defArgs sFlat) (defBody sFlat) (defScope sFlat) .none kV15 dc15 pm15 an15 cd15 ct15, f16, PySem.W.fnOf "_law_matched" "_law_matched" (defArgs sMatched) (defBody sMatched) (defScope sMatched) .none kV16 dc16 pm16 an16 cd16 ct16, f17, PySem.W.fnOf "_law_clash" "_law_clash" (defArgs sClash) (defBody sClash) (defScope sClash) .none kV17 dc17 pm17 an17 cd17 ct17, f18, PySem.W.fnOf "_law_binds" "_law_binds" (defArgs sBinds) (defBody sBinds) (defScope sBinds) .none kV18 dc18 pm18 an18 cd18 ct18, f19, PySem.W.fnOf "law" "law" (defArgs sLaw) (defBody sLaw) (defScope sLaw) .none kV19 dc19 pm19 an19 cd19 ct19, g0, PySem.W.fnOf "__init__" "Reader.__init__" (defArgs sInit) (defBody sInit) (defScope sInit) .none kVm0 dcm0 pmm0 anm0 cdm0 ctm0, g1, PySem.W.fnOf "take" "Reader.take" (defArgs sTake) (defBody sTake) (defScope sTake) .none kVm1 dcm1 pmm1 anm1 cdm1 ctm1, g2, PySem.W.fnOf "begin_brackets" "Reader.begin_brackets" (defArgs sBegin) (defBody sBegin) (defScope sBegin) .none kVm2 dcm2 pmm2 anm2 cdm2 ctm2, g3, PySem.W.fnOf "end_brackets" "Reader.end_brackets" (defArgs sClose) (defBody sClose) (defScope sClose) .none kVm3 dcm3 pmm3 anm3 cdm3 ctm3, g4, PySem.W.fnOf "take_sign" "Reader.take_sign" (defArgs sSign) (defBody sSign) (defScope sSign) .none kVm4 dcm4 pmm4 anm4 cdm4 ctm4, g5, PySem.W.fnOf "take_leaf" "Reader.take_leaf" (defArgs sTLeaf) (defBody sTLeaf) (defScope sTLeaf) .none kVm5 dcm5 pmm5 anm5 cdm5 ctm5, g6, PySem.W.fnOf "whole" "Reader.whole" (defArgs sRWhole) (defBody sRWhole) (defScope sRWhole) .none kVm6 dcm6 pmm6 anm6 cdm6 ctm6, g7, PySem.W.fnOf "check_part_is_due" "Reader.check_part_is_due" (defArgs sDue) (defBody sDue) (defScope sDue) .none kVm7 dcm7 pmm7 anm7 cdm7 ctm7, g8, PySem.W.fnOf "check_part_is_there" "Reader.check_part_is_there" (defArgs sThere) (defBody sThere) (defScope sThere) .none kVm8 dcm8 pmm8 anm8 cdm8 ctm8, g9, PySem.W.fnOf "goes_ahead" "Reader.goes_ahead" (defArgs sAhead) (defBody sAhead) (defScope sAhead) .none kVm9 dcm9 pmm9 anm9 cdm9 ctm9, g10, PySem.W.fnOf "put_all_together" "Reader.put_all_together" (defArgs sPutAll) (defBody sPutAll) (defScope sPutAll) .none kVm10 dcm10 pmm10 anm10 cdm10 ctm10, g11, PySem.W.fnOf "put_together" "Reader.put_together" (defArgs sPut) (defBody sPut) (defScope sPut) .none kVm11 dcm11 pmm11 anm11 cdm11 ctm11, cC, eBracketError, eNoTable, eTwiceThere, eMixedSides, eNoLine, tSIGNS, tSIDES, sLETTERS, sFIGURES⟩, ?_⟩
  exact {
    F0 := F0
    m0 := PySem.W.mg_of X G a0
    b0 := (F0.binds (ps := ["table"]) (fun _ _ _ _ _ _ us hl => by obtain ⟨_, rfl⟩ := us1 hl; rfl))
    F1 := F1
    m1 := PySem.W.mg_of X G a1
    b1 := (F1.binds (ps := ["table"]) (fun _ _ _ _ _ _ us hl => by obtain ⟨_, rfl⟩ := us1 hl; rfl))
    F2 := F2
    m2 := PySem.W.mg_of X G a2
    b2 := (F2.binds (ps := ["table"]) (fun _ _ _ _ _ _ us hl => by obtain ⟨_, rfl⟩ := us1 hl; rfl))
    F3 := F3
    m3 := PySem.W.mg_of X G a3
    b3 := (F3.binds (ps := ["table"]) (fun _ _ _ _ _ _ us hl => by obtain ⟨_, rfl⟩ := us1 hl; rfl))
    F4 := F4
    m4 := PySem.W.mg_of X G a4
    b4 := (F4.binds (ps := ["table"]) (fun _ _ _ _ _ _ us hl => by obtain ⟨_, rfl⟩ := us1 hl; rfl))
    F5 := F5
    m5 := PySem.W.mg_of X G a5
    b5 := (F5.binds (ps := ["line", "start", "run"]) (fun _ _ _ _ _ _ us hl => by obtain ⟨_, _, _, rfl⟩ := us3 hl; rfl))
    F6 := F6
    m6 := PySem.W.mg_of X G a6
    b6 := (F6.binds (ps := ["line", "start"]) (fun _ _ _ _ _ _ us hl => by obtain ⟨_, _, rfl⟩ := us2 hl; rfl))
    F7 := F7
    m7 := PySem.W.mg_of X G a7
    b7 := (F7.binds (ps := ["line"]) (fun _ _ _ _ _ _ us hl => by obtain ⟨_, rfl⟩ := us1 hl; rfl))
    F8 := F8
    m8 := PySem.W.mg_of X G a8
    b8 := (F8.binds (ps := ["token"]) (fun _ _ _ _ _ _ us hl => by obtain ⟨_, rfl⟩ := us1 hl; rfl))
    F9 := F9
    m9 := PySem.W.mg_of X G a9
    b9 := (F9.binds (ps := ["table", "line"]) (fun _ _ _ _ _ _ us hl => by obtain ⟨_, _, rfl⟩ := us2 hl; rfl))
    F10 := F10
    m10 := PySem.W.mg_of X G a10
    b10 := (F10.binds (ps := ["_law_number", "_law_prime", "_law_many"]) (fun _ _ _ _ _ _ us hl => by obtain ⟨_, _, _, rfl⟩ := us3 hl; rfl))
    F11 := F11
    m11 := PySem.W.mg_of X G a11
    b11 := (F11.binds (ps := ["_law_script", "_law_k"]) (fun _ _ _ _ _ _ us hl => by obtain ⟨_, _, rfl⟩ := us2 hl; rfl))
    F12 := F12
    m12 := PySem.W.mg_of X G a12
    b12 := (F12.binds (ps := ["_law_seed"]) (fun _ _ _ _ _ _ us hl => by obtain ⟨_, rfl⟩ := us1 hl; rfl))
    F13 := F13
    m13 := PySem.W.mg_of X G a13
    b13 := (F13.binds (ps := ["_law_found"]) (fun _ _ _ _ _ _ us hl => by obtain ⟨_, rfl⟩ := us1 hl; rfl))
    F14 := F14
    m14 := PySem.W.mg_of X G a14
    b14 := (F14.binds (ps := ["_law_seed"]) (fun _ _ _ _ _ _ us hl => by obtain ⟨_, rfl⟩ := us1 hl; rfl))
    F15 := F15
    m15 := PySem.W.mg_of X G a15
    b15 := (F15.binds (ps := ["_law_tree"]) (fun _ _ _ _ _ _ us hl => by obtain ⟨_, rfl⟩ := us1 hl; rfl))
    F16 := F16
    m16 := PySem.W.mg_of X G a16
    b16 := (F16.binds (ps := ["_law_found", "_law_due"]) (fun _ _ _ _ _ _ us hl => by obtain ⟨_, _, rfl⟩ := us2 hl; rfl))
    F17 := F17
    m17 := PySem.W.mg_of X G a17
    b17 := (F17.binds (ps := ["_law_signs", "_law_ranks", "_law_sides"]) (fun _ _ _ _ _ _ us hl => by obtain ⟨_, _, _, rfl⟩ := us3 hl; rfl))
    F18 := F18
    m18 := PySem.W.mg_of X G a18
    b18 := (F18.binds (ps := ["_law_tree", "_law_ranks", "_law_sides"]) (fun _ _ _ _ _ _ us hl => by obtain ⟨_, _, _, rfl⟩ := us3 hl; rfl))
    F19 := F19
    m19 := PySem.W.mg_of X G a19
    b19 := (F19.binds (ps := ["_law_script"]) (fun _ _ _ _ _ _ us hl => by obtain ⟨_, rfl⟩ := us1 hl; rfl))
    G0 := G0
    M0 := ⟨am0, im0, km0⟩
    B0 := (G0.binds (ps := ["self", "rows"]) (fun _ _ _ _ _ _ us hl => by obtain ⟨_, _, rfl⟩ := us2 hl; rfl))
    G1 := G1
    M1 := ⟨am1, im1, km1⟩
    B1 := (G1.binds (ps := ["self", "token"]) (fun _ _ _ _ _ _ us hl => by obtain ⟨_, _, rfl⟩ := us2 hl; rfl))
    G2 := G2
    M2 := ⟨am2, im2, km2⟩
    B2 := (G2.binds (ps := ["self"]) (fun _ _ _ _ _ _ us hl => by obtain ⟨_, rfl⟩ := us1 hl; rfl))
    G3 := G3
    M3 := ⟨am3, im3, km3⟩
    B3 := (G3.binds (ps := ["self"]) (fun _ _ _ _ _ _ us hl => by obtain ⟨_, rfl⟩ := us1 hl; rfl))
    G4 := G4
    M4 := ⟨am4, im4, km4⟩
    B4 := (G4.binds (ps := ["self", "sign"]) (fun _ _ _ _ _ _ us hl => by obtain ⟨_, _, rfl⟩ := us2 hl; rfl))
    G5 := G5
    M5 := ⟨am5, im5, km5⟩
    B5 := (G5.binds (ps := ["self", "token"]) (fun _ _ _ _ _ _ us hl => by obtain ⟨_, _, rfl⟩ := us2 hl; rfl))
    G6 := G6
    M6 := ⟨am6, im6, km6⟩
    B6 := (G6.binds (ps := ["self"]) (fun _ _ _ _ _ _ us hl => by obtain ⟨_, rfl⟩ := us1 hl; rfl))
    G7 := G7
    M7 := ⟨am7, im7, km7⟩
    B7 := (G7.binds (ps := ["self", "token"]) (fun _ _ _ _ _ _ us hl => by obtain ⟨_, _, rfl⟩ := us2 hl; rfl))
    G8 := G8
    M8 := ⟨am8, im8, km8⟩
    B8 := (G8.binds (ps := ["self"]) (fun _ _ _ _ _ _ us hl => by obtain ⟨_, rfl⟩ := us1 hl; rfl))
    G9 := G9
    M9 := ⟨am9, im9, km9⟩
    B9 := (G9.binds (ps := ["self", "earlier", "later"]) (fun _ _ _ _ _ _ us hl => by obtain ⟨_, _, _, rfl⟩ := us3 hl; rfl))
    G10 := G10
    M10 := ⟨am10, im10, km10⟩
    B10 := (G10.binds (ps := ["self"]) (fun _ _ _ _ _ _ us hl => by obtain ⟨_, rfl⟩ := us1 hl; rfl))
    G11 := G11
    M11 := ⟨am11, im11, km11⟩
    B11 := (G11.binds (ps := ["self"]) (fun _ _ _ _ _ _ us hl => by obtain ⟨_, rfl⟩ := us1 hl; rfl))
    cl := ⟨pg, hdC, po, sa⟩
    mc := PySem.W.mg_of X G aC
    mkC := ⟨mk, am0, im0, kc⟩
    n_rows := nf_rows
    n_parts := nf_parts
    n_waiting := nf_waiting
    n_part_due := nf_part_due
    EBracketError := ⟨anBracketError, PySem.W.mg_of X G anBracketError, x1BracketError⟩
    ENoTable := ⟨anNoTable, PySem.W.mg_of X G anNoTable, x1NoTable⟩
    ETwiceThere := ⟨anTwiceThere, PySem.W.mg_of X G anTwiceThere, x1TwiceThere⟩
    EMixedSides := ⟨anMixedSides, PySem.W.mg_of X G anMixedSides, x1MixedSides⟩
    ENoLine := ⟨anNoLine, PySem.W.mg_of X G anNoLine, x1NoLine⟩
    INoLine := ⟨(by obtain ⟨cd, hc, _⟩ := PySem.W.any_some x2NoLine; rw [hc]; rfl), x3NoLine, x4NoLine, x5NoLine, x6NoLine, x7NoLine, x8NoLine, x9NoLine⟩
    oNoLine_NoLine := oNoLine_NoLine
    xNoLine_BracketError := xNoLine_BracketError
    TSIGNS := PySem.W.mg_of X G atSIGNS
    QSIGNS := fun H => .inr ⟨_, _, _, ltSIGNS, rfl, rfl, (by show 10 ≤ sizeLine; decide), .cons ⟨_, rfl⟩ (.cons ⟨_, rfl⟩ (.cons ⟨_, rfl⟩ (.cons ⟨_, rfl⟩ (.cons ⟨_, rfl⟩ (.cons ⟨_, rfl⟩ (.cons ⟨_, rfl⟩ (.cons ⟨_, rfl⟩ (.cons ⟨_, rfl⟩ (.cons ⟨_, rfl⟩ (.nil))))))))))⟩
    TSIDES := PySem.W.mg_of X G atSIDES
    QSIDES := fun H => .inr ⟨_, _, _, ltSIDES, rfl, rfl, (by show 3 ≤ sizeLine; decide), .cons ⟨_, rfl⟩ (.cons ⟨_, rfl⟩ (.cons ⟨_, rfl⟩ (.nil)))⟩
    SLETTERS := PySem.W.mg_of X G asLETTERS
    SFIGURES := PySem.W.mg_of X G asFIGURES
    nlen := PySem.W.mg_none_of X G nlen
    nrange := PySem.W.mg_none_of X G nrange
    nisinstance := PySem.W.mg_none_of X G nisinstance
    nint := PySem.W.mg_none_of X G nint
    nstr := PySem.W.mg_none_of X G nstr
    nlist := PySem.W.mg_none_of X G nlist
    ndict := PySem.W.mg_none_of X G ndict
    nbool := PySem.W.mg_none_of X G nbool
    ntuple := PySem.W.mg_none_of X G ntuple
    nmin := PySem.W.mg_none_of X G nmin
    kint_int := kint_int
    kint_bool := kint_bool
    kint_str := kint_str
    kint_tuple := kint_tuple
    kstr_int := kstr_int
    kstr_str := kstr_str
    kstr_tuple := kstr_tuple
    ktuple_int := ktuple_int
    ktuple_str := ktuple_str
    ktuple_tuple := ktuple_tuple }
section
variable {P : Program} {w : World} {K : PySem.W.Frag} {mg : Str → Option Value} {base : Heap} {t : Adr}
/-- read, by all that it leans on -/
theorem all_check (T : Text K mg t) : Cal P w K mg base (CX1 P w) 2 "check_table" ["table"] (spCheck t.eNoTable t.eTwiceThere t.eMixedSides) := by
  have TX : Txt K mg t.tSIGNS t.tSIDES t.eBracketError t.eNoTable t.eTwiceThere t.eMixedSides t.eNoLine := ⟨T.TSIGNS, T.QSIGNS, T.TSIDES, T.QSIDES, T.EBracketError.bound, T.ENoTable, T.ETwiceThere, T.EMixedSides, T.ENoLine⟩
  exact Cal.of T.F0 (ok_check T.F0 (ok_words T.F1 TX) T.b1 T.F1.kp T.m1 (ok_twice T.F2 TX) T.b2 T.F2.kp T.m2 (ok_one T.F3 TX) T.b3 T.F3.kp T.m3) T.b0 T.m0
theorem all_rows (T : Text K mg t) : Cal P w K mg base (CX1 P w) 3 "rows_by_sign" ["table"] (spRows t.eNoTable t.eTwiceThere t.eMixedSides) :=
  Cal.of T.F4 (ok_rows T.F4 (all_check T) T.ndict) T.b4 T.m4
theorem all_read (T : Text K mg t) : Cal P w K mg base (CX1 P w) 5 "read" psRead (spRead t.eNoTable t.eTwiceThere t.eMixedSides t.eNoLine) := by
  have cRun : Cal P w K mg base CX0 1 "end_of_run" psRun spRun := Cal.of T.F5 (ok_run T.F5 T.nlen) T.b5 T.m5
  have cEnd : Cal P w K mg base CX0 2 "end_of_token" psEnd spEnd := Cal.of T.F6 (ok_end T.F6 cRun T.SLETTERS T.SFIGURES) T.b6 T.m6
  have cTok : Cal P w K mg base CX0 3 "tokens_of" psToks spToks := Cal.of T.F7 (ok_toks T.F7 cEnd T.nlen) T.b7 T.m7
  have cLf : Cal P w K mg base (CX1 P w) 1 "leaf_of" psLeaf (spLeaf t.eNoLine) := Cal.of T.F8 (ok_leaf T.F8 T.ENoLine T.SLETTERS T.SFIGURES T.nint) T.b8 T.m8
  have TR : TxR K mg t.cC t.eNoLine := ⟨T.cl, T.n_rows, T.n_parts, T.n_waiting, T.n_part_due, T.ENoLine⟩
  have mP : ∀ rs, MCal P w K mg base CX0 1 t.cC "put_together" ps1 (spPut t.cC rs) := fun rs => ⟨_, _, ok_put T.G11 TR, T.B11, T.M11⟩
  have mA : ∀ rs, MCal P w K mg base CX0 2 t.cC "put_all_together" ps1 (spPutAll t.cC rs) := fun rs => ⟨_, _, ok_putAll T.G10 TR (mP rs), T.B10, T.M10⟩
  have mG : ∀ rs, MCal P w K mg base (CX1 P w) 1 t.cC "goes_ahead" psAhead (spAhead t.cC t.eNoLine rs) := fun rs => ⟨_, _, ok_ahead T.G9 TR, T.B9, T.M9⟩
  have mT : ∀ rs, MCal P w K mg base (CX1 P w) 1 t.cC "check_part_is_there" ps1 (spThere t.cC t.eNoLine rs) := fun rs => ⟨_, _, ok_there T.G8 TR, T.B8, T.M8⟩
  have mD : ∀ rs, MCal P w K mg base (CX1 P w) 1 t.cC "check_part_is_due" psT (spDue t.cC t.eNoLine rs) := fun rs => ⟨_, _, ok_due T.G7 TR, T.B7, T.M7⟩
  have mB : ∀ rs, MCal P w K mg base (CX1 P w) 2 t.cC "begin_brackets" ps1 (spBegin t.cC t.eNoLine rs) := fun rs => ⟨_, _, ok_begin T.G2 TR (mD rs), T.B2, T.M2⟩
  have mC : ∀ rs, MCal P w K mg base (CX1 P w) 3 t.cC "end_brackets" ps1 (spClose t.cC t.eNoLine rs) := fun rs => ⟨_, _, ok_close T.G3 TR (mT rs) (mA rs), T.B3, T.M3⟩
  have mS : ∀ rs, MCal P w K mg base (CX1 P w) 2 t.cC "take_sign" psSign (spSign t.cC t.eNoLine rs) := fun rs => ⟨_, _, ok_sign T.G4 TR (mT rs) (mP rs) (mG rs), T.B4, T.M4⟩
  have mL : ∀ rs, MCal P w K mg base (CX1 P w) 2 t.cC "take_leaf" psT (spTLeaf t.cC t.eNoLine rs) := fun rs => ⟨_, _, ok_tleaf T.G5 TR cLf (mD rs), T.B5, T.M5⟩
  have mK : ∀ rs, MCal P w K mg base (CX1 P w) 4 t.cC "take" psT (spTake t.cC t.eNoLine rs) := fun rs => ⟨_, _, ok_take T.G1 TR ((mB rs).up (by decide)) (mC rs) ((mS rs).up (by decide)) ((mL rs).up (by decide)), T.B1, T.M1⟩
  have mW : ∀ rs, MCal P w K mg base (CX1 P w) 3 t.cC "whole" ps1 (spRWhole t.cC t.eNoLine rs) := fun rs => ⟨_, _, ok_rwhole T.G6 TR (mT rs) (mA rs), T.B6, T.M6⟩
  exact Cal.of T.F9 (ok_read T.F9 TR ((all_rows T).up (by decide)) (cTok.up (by decide)) T.mkC ((ok_init T.G0 TR).mono (by decide)) T.B0 T.mc mK fun rs => (mW rs).up (by decide)) T.b9 T.m9
theorem all_readOk (T : Text K mg t) : Cal P w K mg base (CX1 P w) 5 "read" psRead (spReadOk t.eNoLine) := by
  obtain ⟨f, fd, h1, h2, h3, h4⟩ := (all_read (P := P) (w := w) (base := base) T).ex
  exact ⟨f, fd, read_ok h1, h2, h3, h4⟩
end
theorem all_law {P : Program} {w : World} {K : PySem.W.Frag} {mg : Str → Option Value} {t : Adr} {fa : Addr} (T : Text K mg t) (hmg : mg "law" = some (.ref fa)) :
    ∃ fd : FuncData, (∀ (s : Shared) (u : Value), BindsTo s fd ⟨[u], []⟩ [("_law_script", u)]) ∧ ∀ base : Heap, K.In base → base.Ns mainGlobals mg → FnOk P w K mg base CX0 20 fa fd ["_law_script"] (spLaw K) := by
  have e := hmg.symm.trans T.m19
  cases e
  refine ⟨t.d19, ?_, fun base _ _ => ?_⟩
  · obtain ⟨oc, od, kV, doc, pm, an, cdv, ct, osl, e1, _, _⟩ := T.F19.ex
    intro s u
    rw [e1]
    exact .of_eq rfl
  have kt : Kits K := ⟨T.kint_int, T.kint_bool, T.kint_str, T.kint_tuple, T.kstr_int, T.kstr_str, T.kstr_tuple, T.ktuple_int, T.ktuple_str, T.ktuple_tuple⟩
  have gD := ok_draw (P := P) (w := w) (mg := mg) (base := base) T.F10
  have cAt : Cal P w K mg base CX0 1 "_law_at" psAt (spAt K) := Cal.of T.F11 (ok_at T.F11 T.nlen) T.b11 T.m11
  have cRk : Cal P w K mg base CX0 2 "_law_ranked" psRanked spRanked := Cal.of T.F12 (ok_ranked T.F12 gD T.b10 T.F10.kp T.m10 T.nrange) T.b12 T.m12
  have gW := ok_whole (P := P) (w := w) (mg := mg) (base := base) T.F13 kt T.nisinstance T.nint T.nbool
  have cBd : Cal P w K mg base CX0 2 "_law_budded" psBud spBud := Cal.of T.F14 (ok_bud T.F14 gD T.b10 T.F10.kp T.m10 T.nrange T.nint) T.b14 T.m14
  have cFl : Cal P w K mg base CX0 1 "_law_flat" psFlat spFlat := Cal.of T.F15 (ok_flat T.F15 kt T.nisinstance T.ntuple T.nlen) T.b15 T.m15
  have cMa : Cal P w K mg base CX0 1 "_law_matched" psMatched spMatched := Cal.of T.F16 (ok_matched T.F16 kt T.nisinstance T.nstr T.nlen T.nrange) T.b16 T.m16
  have cCl : Cal P w K mg base CX0 1 "_law_clash" psClash spClash := Cal.of T.F17 (ok_clash T.F17 T.nlen T.nrange) T.b17 T.m17
  have cBi : Cal P w K mg base CX0 2 "_law_binds" psBinds spBinds := Cal.of T.F18 (ok_binds T.F18 gW T.b13 T.F13.kp T.m13 kt T.nisinstance T.ntuple T.nstr T.nlen) T.b18 T.m18
  exact (ok_law (n := 5) T.F19 (cAt.up (by decide)) (cRk.up (by decide)) (cBd.up (by decide)) (cCl.up (by decide)) (cBi.up (by decide)) (cMa.up (by decide)) (cFl.up (by decide)) (all_readOk T) T.INoLine T.oNoLine_NoLine T.xNoLine_BracketError T.EBracketError.bound T.ENoLine.bound T.nlen T.nrange T.nstr T.nisinstance T.nlist T.nmin).mono (by decide)
end K05
end
-- names laid ahead, so that the head lays no twins there: nothing needs them, and they are large
noncomputable def PySem.W.Fast.tw16194057096527692254 : Unit := ()
noncomputable def PySem.W.Fast.tw2064614045997422636 : Unit := ()
noncomputable def PySem.W.Fast.tw6354661819079704785 : Unit := ()
noncomputable def PySem.W.Fast.tw4341365634926030147 : Unit := ()
noncomputable def PySem.W.Fast.tw11393411449424159920 : Unit := ()
noncomputable def PySem.W.Fast.tw10521328087971339497 : Unit := ()
noncomputable def PySem.W.Fast.tw18209468253053264484 : Unit := ()
noncomputable def PySem.W.Fast.tw6224563784399591955 : Unit := ()
noncomputable def PySem.W.Fast.tw17935924994038698934 : Unit := ()
noncomputable def PySem.W.Fast.tw11035322911009721122 : Unit := ()
noncomputable def PySem.W.Fast.tw14011776031825771690 : Unit := ()
noncomputable def PySem.W.Fast.tw15867477756767795576 : Unit := ()
noncomputable def PySem.W.Fast.tw3492069729342130375 : Unit := ()
noncomputable def PySem.W.Fast.tw11523014575532646025 : Unit := ()
noncomputable def PySem.W.Fast.tw7631171529842365823 : Unit := ()
noncomputable def PySem.W.Fast.tw3397754198417838984 : Unit := ()
noncomputable def PySem.W.Fast.tw4766906596142393249 : Unit := ()
noncomputable def PySem.W.Fast.tw9302197047251935179 : Unit := ()
noncomputable def PySem.W.Fast.tw9763956144657148407 : Unit := ()
noncomputable def PySem.W.Fast.tw11841855879369924712 : Unit := ()
noncomputable def PySem.W.Fast.tw5701388540888077422 : Unit := ()
noncomputable def PySem.W.Fast.tw17338585866211194548 : Unit := ()
noncomputable def PySem.W.Fast.tw5152916010263266627 : Unit := ()
noncomputable def PySem.W.Fast.tw7094162270314895155 : Unit := ()
noncomputable def PySem.W.Fast.tw14637153873477340828 : Unit := ()
noncomputable def PySem.W.Fast.tw4591520042139296039 : Unit := ()
noncomputable def PySem.W.Fast.tw16089893108059737772 : Unit := ()
noncomputable def PySem.W.Fast.tw13546535443285914390 : Unit := ()
noncomputable def PySem.W.Fast.tw2443177077370665459 : Unit := ()
noncomputable def PySem.W.Fast.tw5502103688990776187 : Unit := ()
noncomputable def PySem.W.Fast.tw6885142645984061397 : Unit := ()
open PySem PySem.W PyProof.Rows
set_option maxRecDepth 100000 in
set_option maxHeartbeats 0 in
theorem PySem.Challenge.cw_fewbrackets_k05_whole_by_ranks_and_sides_holds : PySem.Challenge.rw_fewbrackets_k05_whole_by_ranks_and_sides.Holds := by
  w_on; o_law; k_head; (case hw => w_witness2)
  k_fill
  refine Fb.walk_ofB (l := PySem.Challenge.rw_fewbrackets_k05_whole_by_ranks_and_sides) (n := 63) (k := 20) (x := "_law_script") (sp := Fb.spLaw) rfl (by decide) rfl ⟨rfl, by decide, by decide, rfl⟩ (fun w h Y => PySem.W.kIn_of Y) ?F (fun K H a ns hl hz hS => ⟨a, ns, rfl, hS, hl, hz, fun _ => rfl⟩)
  case F =>
    intro w mg fa h KX G hmg
    have T : ∃ t, K05.Text (L2.KOf KX) mg t := by
      dsimp only [L2.KOf]
      refine' K05.txt_mk KX G ?a0 ?l0 ?c0 ?k0 ?a1 ?l1 ?c1 ?k1 ?a2 ?l2 ?c2 ?k2 ?a3 ?l3 ?c3 ?k3 ?a4 ?l4 ?c4 ?k4 ?a5 ?l5 ?c5 ?k5 ?a6 ?l6 ?c6 ?k6 ?a7 ?l7 ?c7 ?k7 ?a8 ?l8 ?c8 ?k8 ?a9 ?l9 ?c9 ?k9 ?a10 ?l10 ?c10 ?k10 ?a11 ?l11 ?c11 ?k11 ?a12 ?l12 ?c12 ?k12 ?a13 ?l13 ?c13 ?k13 ?a14 ?l14 ?c14 ?k14 ?a15 ?l15 ?c15 ?k15 ?a16 ?l16 ?c16 ?k16 ?a17 ?l17 ?c17 ?k17 ?a18 ?l18 ?c18 ?k18 ?a19 ?l19 ?c19 ?k19 ?aC ?am0 ?im0 ?lm0 ?cm0 ?km0 ?am1 ?im1 ?lm1 ?cm1 ?km1 ?am2 ?im2 ?lm2 ?cm2 ?km2 ?am3 ?im3 ?lm3 ?cm3 ?km3 ?am4 ?im4 ?lm4 ?cm4 ?km4 ?am5 ?im5 ?lm5 ?cm5 ?km5 ?am6 ?im6 ?lm6 ?cm6 ?km6 ?am7 ?im7 ?lm7 ?cm7 ?km7 ?am8 ?im8 ?lm8 ?cm8 ?km8 ?am9 ?im9 ?lm9 ?cm9 ?km9 ?am10 ?im10 ?lm10 ?cm10 ?km10 ?am11 ?im11 ?lm11 ?cm11 ?km11 ?pg ?hdC ?po ?sa ?mk ?kc ?nf_rows ?nf_parts ?nf_waiting ?nf_part_due ?anBracketError ?x1BracketError ?anNoTable ?x1NoTable ?anTwiceThere ?x1TwiceThere ?anMixedSides ?x1MixedSides ?anNoLine ?x1NoLine ?x2NoLine ?x3NoLine ?x4NoLine ?x5NoLine ?x6NoLine ?x7NoLine ?x8NoLine ?x9NoLine ?oNoLine_NoLine ?xNoLine_BracketError ?atSIGNS ?ltSIGNS ?atSIDES ?ltSIDES ?asLETTERS ?asFIGURES ?nlen ?nrange ?nisinstance ?nint ?nstr ?nlist ?ndict ?nbool ?ntuple ?nmin ?kint_int ?kint_bool ?kint_str ?kint_tuple ?kstr_int ?kstr_str ?kstr_tuple ?ktuple_int ?ktuple_str ?ktuple_tuple
      (case a0 => first | k_is | kit_is | kts_exm | k_exc)
      (case l0 => first | k_is | kit_is | kts_exm | k_exc)
      (case c0 => first | k_is | kit_is | kts_exm | k_exc)
      (case k0 => first | k_is | kit_is | kts_exm | k_exc)
      (case a1 => first | k_is | kit_is | kts_exm | k_exc)
      (case l1 => first | k_is | kit_is | kts_exm | k_exc)
      (case c1 => first | k_is | kit_is | kts_exm | k_exc)
      (case k1 => first | k_is | kit_is | kts_exm | k_exc)
      (case a2 => first | k_is | kit_is | kts_exm | k_exc)
      (case l2 => first | k_is | kit_is | kts_exm | k_exc)
      (case c2 => first | k_is | kit_is | kts_exm | k_exc)
      (case k2 => first | k_is | kit_is | kts_exm | k_exc)
      (case a3 => first | k_is | kit_is | kts_exm | k_exc)
      (case l3 => first | k_is | kit_is | kts_exm | k_exc)
      (case c3 => first | k_is | kit_is | kts_exm | k_exc)
      (case k3 => first | k_is | kit_is | kts_exm | k_exc)
      (case a4 => first | k_is | kit_is | kts_exm | k_exc)
      (case l4 => first | k_is | kit_is | kts_exm | k_exc)
      (case c4 => first | k_is | kit_is | kts_exm | k_exc)
      (case k4 => first | k_is | kit_is | kts_exm | k_exc)
      (case a5 => first | k_is | kit_is | kts_exm | k_exc)
      (case l5 => first | k_is | kit_is | kts_exm | k_exc)
      (case c5 => first | k_is | kit_is | kts_exm | k_exc)
      (case k5 => first | k_is | kit_is | kts_exm | k_exc)
      (case a6 => first | k_is | kit_is | kts_exm | k_exc)
      (case l6 => first | k_is | kit_is | kts_exm | k_exc)
      (case c6 => first | k_is | kit_is | kts_exm | k_exc)
      (case k6 => first | k_is | kit_is | kts_exm | k_exc)
      (case a7 => first | k_is | kit_is | kts_exm | k_exc)
      (case l7 => first | k_is | kit_is | kts_exm | k_exc)
      (case c7 => first | k_is | kit_is | kts_exm | k_exc)
      (case k7 => first | k_is | kit_is | kts_exm | k_exc)
      (case a8 => first | k_is | kit_is | kts_exm | k_exc)
      (case l8 => first | k_is | kit_is | kts_exm | k_exc)
      (case c8 => first | k_is | kit_is | kts_exm | k_exc)
      (case k8 => first | k_is | kit_is | kts_exm | k_exc)
      (case a9 => first | k_is | kit_is | kts_exm | k_exc)
      (case l9 => first | k_is | kit_is | kts_exm | k_exc)
      (case c9 => first | k_is | kit_is | kts_exm | k_exc)
      (case k9 => first | k_is | kit_is | kts_exm | k_exc)
      (case a10 => first | k_is | kit_is | kts_exm | k_exc)
      (case l10 => first | k_is | kit_is | kts_exm | k_exc)
      (case c10 => first | k_is | kit_is | kts_exm | k_exc)
      (case k10 => first | k_is | kit_is | kts_exm | k_exc)
      (case a11 => first | k_is | kit_is | kts_exm | k_exc)
      (case l11 => first | k_is | kit_is | kts_exm | k_exc)
      (case c11 => first | k_is | kit_is | kts_exm | k_exc)
      (case k11 => first | k_is | kit_is | kts_exm | k_exc)
      (case a12 => first | k_is | kit_is | kts_exm | k_exc)
      (case l12 => first | k_is | kit_is | kts_exm | k_exc)
      (case c12 => first | k_is | kit_is | kts_exm | k_exc)
      (case k12 => first | k_is | kit_is | kts_exm | k_exc)
      (case a13 => first | k_is | kit_is | kts_exm | k_exc)
      (case l13 => first | k_is | kit_is | kts_exm | k_exc)
      (case c13 => first | k_is | kit_is | kts_exm | k_exc)
      (case k13 => first | k_is | kit_is | kts_exm | k_exc)
      (case a14 => first | k_is | kit_is | kts_exm | k_exc)
      (case l14 => first | k_is | kit_is | kts_exm | k_exc)
      (case c14 => first | k_is | kit_is | kts_exm | k_exc)
      (case k14 => first | k_is | kit_is | kts_exm | k_exc)
      (case a15 => first | k_is | kit_is | kts_exm | k_exc)
      (case l15 => first | k_is | kit_is | kts_exm | k_exc)
      (case c15 => first | k_is | kit_is | kts_exm | k_exc)
      (case k15 => first | k_is | kit_is | kts_exm | k_exc)
      (case a16 => first | k_is | kit_is | kts_exm | k_exc)
      (case l16 => first | k_is | kit_is | kts_exm | k_exc)
      (case c16 => first | k_is | kit_is | kts_exm | k_exc)
      (case k16 => first | k_is | kit_is | kts_exm | k_exc)
      (case a17 => first | k_is | kit_is | kts_exm | k_exc)
      (case l17 => first | k_is | kit_is | kts_exm | k_exc)
      (case c17 => first | k_is | kit_is | kts_exm | k_exc)
      (case k17 => first | k_is | kit_is | kts_exm | k_exc)
      (case a18 => first | k_is | kit_is | kts_exm | k_exc)
      (case l18 => first | k_is | kit_is | kts_exm | k_exc)
      (case c18 => first | k_is | kit_is | kts_exm | k_exc)
      (case k18 => first | k_is | kit_is | kts_exm | k_exc)
      (case a19 => first | k_is | kit_is | kts_exm | k_exc)
      (case l19 => first | k_is | kit_is | kts_exm | k_exc)
      (case c19 => first | k_is | kit_is | kts_exm | k_exc)
      (case k19 => first | k_is | kit_is | kts_exm | k_exc)
      (case aC => first | k_is | kit_is | kts_exm | k_exc)
      (case am0 => first | k_is | kit_is | kts_exm | k_exc)
      (case im0 => first | k_is | kit_is | kts_exm | k_exc)
      (case lm0 => first | k_is | kit_is | kts_exm | k_exc)
      (case cm0 => first | k_is | kit_is | kts_exm | k_exc)
      (case km0 => first | k_is | kit_is | kts_exm | k_exc)
      (case am1 => first | k_is | kit_is | kts_exm | k_exc)
      (case im1 => first | k_is | kit_is | kts_exm | k_exc)
      (case lm1 => first | k_is | kit_is | kts_exm | k_exc)
      (case cm1 => first | k_is | kit_is | kts_exm | k_exc)
      (case km1 => first | k_is | kit_is | kts_exm | k_exc)
      (case am2 => first | k_is | kit_is | kts_exm | k_exc)
      (case im2 => first | k_is | kit_is | kts_exm | k_exc)
      (case lm2 => first | k_is | kit_is | kts_exm | k_exc)
      (case cm2 => first | k_is | kit_is | kts_exm | k_exc)
      (case km2 => first | k_is | kit_is | kts_exm | k_exc)
      (case am3 => first | k_is | kit_is | kts_exm | k_exc)
      (case im3 => first | k_is | kit_is | kts_exm | k_exc)
      (case lm3 => first | k_is | kit_is | kts_exm | k_exc)
      (case cm3 => first | k_is | kit_is | kts_exm | k_exc)
      (case km3 => first | k_is | kit_is | kts_exm | k_exc)
      (case am4 => first | k_is | kit_is | kts_exm | k_exc)
      (case im4 => first | k_is | kit_is | kts_exm | k_exc)
      (case lm4 => first | k_is | kit_is | kts_exm | k_exc)
      (case cm4 => first | k_is | kit_is | kts_exm | k_exc)
      (case km4 => first | k_is | kit_is | kts_exm | k_exc)
      (case am5 => first | k_is | kit_is | kts_exm | k_exc)
      (case im5 => first | k_is | kit_is | kts_exm | k_exc)
      (case lm5 => first | k_is | kit_is | kts_exm | k_exc)
      (case cm5 => first | k_is | kit_is | kts_exm | k_exc)
      (case km5 => first | k_is | kit_is | kts_exm | k_exc)
      (case am6 => first | k_is | kit_is | kts_exm | k_exc)
      (case im6 => first | k_is | kit_is | kts_exm | k_exc)
      (case lm6 => first | k_is | kit_is | kts_exm | k_exc)
      (case cm6 => first | k_is | kit_is | kts_exm | k_exc)
      (case km6 => first | k_is | kit_is | kts_exm | k_exc)
      (case am7 => first | k_is | kit_is | kts_exm | k_exc)
      (case im7 => first | k_is | kit_is | kts_exm | k_exc)
      (case lm7 => first | k_is | kit_is | kts_exm | k_exc)
      (case cm7 => first | k_is | kit_is | kts_exm | k_exc)
      (case km7 => first | k_is | kit_is | kts_exm | k_exc)
      (case am8 => first | k_is | kit_is | kts_exm | k_exc)
      (case im8 => first | k_is | kit_is | kts_exm | k_exc)
      (case lm8 => first | k_is | kit_is | kts_exm | k_exc)
      (case cm8 => first | k_is | kit_is | kts_exm | k_exc)
      (case km8 => first | k_is | kit_is | kts_exm | k_exc)
      (case am9 => first | k_is | kit_is | kts_exm | k_exc)
      (case im9 => first | k_is | kit_is | kts_exm | k_exc)
      (case lm9 => first | k_is | kit_is | kts_exm | k_exc)
      (case cm9 => first | k_is | kit_is | kts_exm | k_exc)
      (case km9 => first | k_is | kit_is | kts_exm | k_exc)
      (case am10 => first | k_is | kit_is | kts_exm | k_exc)
      (case im10 => first | k_is | kit_is | kts_exm | k_exc)
      (case lm10 => first | k_is | kit_is | kts_exm | k_exc)
      (case cm10 => first | k_is | kit_is | kts_exm | k_exc)
      (case km10 => first | k_is | kit_is | kts_exm | k_exc)
      (case am11 => first | k_is | kit_is | kts_exm | k_exc)
      (case im11 => first | k_is | kit_is | kts_exm | k_exc)
      (case lm11 => first | k_is | kit_is | kts_exm | k_exc)
      (case cm11 => first | k_is | kit_is | kts_exm | k_exc)
      (case km11 => first | k_is | kit_is | kts_exm | k_exc)
      (case pg => first | k_is | kit_is | kts_exm | k_exc)
      (case hdC => first | k_is | kit_is | kts_exm | k_exc)
      (case po => first | k_is | kit_is | kts_exm | k_exc)
      (case sa => first | k_is | kit_is | kts_exm | k_exc)
      (case mk => first | k_is | kit_is | kts_exm | k_exc)
      (case kc => first | k_is | kit_is | kts_exm | k_exc)
      (case nf_rows => first | k_is | kit_is | kts_exm | k_exc)
      (case nf_parts => first | k_is | kit_is | kts_exm | k_exc)
      (case nf_waiting => first | k_is | kit_is | kts_exm | k_exc)
      (case nf_part_due => first | k_is | kit_is | kts_exm | k_exc)
      (case anBracketError => first | k_is | kit_is | kts_exm | k_exc)
      (case x1BracketError => first | k_is | kit_is | kts_exm | k_exc)
      (case anNoTable => first | k_is | kit_is | kts_exm | k_exc)
      (case x1NoTable => first | k_is | kit_is | kts_exm | k_exc)
      (case anTwiceThere => first | k_is | kit_is | kts_exm | k_exc)
      (case x1TwiceThere => first | k_is | kit_is | kts_exm | k_exc)
      (case anMixedSides => first | k_is | kit_is | kts_exm | k_exc)
      (case x1MixedSides => first | k_is | kit_is | kts_exm | k_exc)
      (case anNoLine => first | k_is | kit_is | kts_exm | k_exc)
      (case x1NoLine => first | k_is | kit_is | kts_exm | k_exc)
      (case x2NoLine => first | k_is | kit_is | kts_exm | k_exc)
      (case x3NoLine => first | k_is | kit_is | kts_exm | k_exc)
      (case x4NoLine => first | k_is | kit_is | kts_exm | k_exc)
      (case x5NoLine => first | k_is | kit_is | kts_exm | k_exc)
      (case x6NoLine => first | k_is | kit_is | kts_exm | k_exc)
      (case x7NoLine => first | k_is | kit_is | kts_exm | k_exc)
      (case x8NoLine => first | k_is | kit_is | kts_exm | k_exc)
      (case x9NoLine => first | k_is | kit_is | kts_exm | k_exc)
      (case oNoLine_NoLine => first | k_is | kit_is | kts_exm | k_exc)
      (case xNoLine_BracketError => first | k_is | kit_is | kts_exm | k_exc)
      (case atSIGNS => first | k_is | kit_is | kts_exm | k_exc)
      (case ltSIGNS => first | k_is | kit_is | kts_exm | k_exc)
      (case atSIDES => first | k_is | kit_is | kts_exm | k_exc)
      (case ltSIDES => first | k_is | kit_is | kts_exm | k_exc)
      (case asLETTERS => first | k_is | kit_is | kts_exm | k_exc)
      (case asFIGURES => first | k_is | kit_is | kts_exm | k_exc)
      (case nlen => first | k_is | kit_is | kts_exm | k_exc)
      (case nrange => first | k_is | kit_is | kts_exm | k_exc)
      (case nisinstance => first | k_is | kit_is | kts_exm | k_exc)
      (case nint => first | k_is | kit_is | kts_exm | k_exc)
      (case nstr => first | k_is | kit_is | kts_exm | k_exc)
      (case nlist => first | k_is | kit_is | kts_exm | k_exc)
      (case ndict => first | k_is | kit_is | kts_exm | k_exc)
      (case nbool => first | k_is | kit_is | kts_exm | k_exc)
      (case ntuple => first | k_is | kit_is | kts_exm | k_exc)
      (case nmin => first | k_is | kit_is | kts_exm | k_exc)
      (case kint_int => first | k_is | kit_is | kts_exm | k_exc)
      (case kint_bool => first | k_is | kit_is | kts_exm | k_exc)
      (case kint_str => first | k_is | kit_is | kts_exm | k_exc)
      (case kint_tuple => first | k_is | kit_is | kts_exm | k_exc)
      (case kstr_int => first | k_is | kit_is | kts_exm | k_exc)
      (case kstr_str => first | k_is | kit_is | kts_exm | k_exc)
      (case kstr_tuple => first | k_is | kit_is | kts_exm | k_exc)
      (case ktuple_int => first | k_is | kit_is | kts_exm | k_exc)
      (case ktuple_str => first | k_is | kit_is | kts_exm | k_exc)
      (case ktuple_tuple => first | k_is | kit_is | kts_exm | k_exc)
    obtain ⟨t, T⟩ := T
    exact K05.all_law T hmg
