
import PyProof.Rows.All
import Wide.All
import OpenK.AllK
import Wide.FinOn
import PyProof.EqAt
import PyProof.EqKinds
import PyProof.TupleCall
import KE.BitLaws
import KE.RegKTryMore
import KE.KSortTup
import PyProof.Rows.EqMixed
import PyProof.NeKinds
import PyProof.FactsAll.dict_1
import PyProof.FitsInt
import PyProof.Rows.ReprOcc
import PySem.Challenge.RW_crossmarks_k84_programs_known
set_option Elab.async false
set_option linter.all false
set_option maxRecDepth 100000
namespace L2
open PySem PySem.Spec PyProof.Rows
abbrev Key := Sum Int Str
def keyIs : Key → Value → Bool
  | .inl k, v => Value.isInt k v
  | .inr x, v => Value.isStrOf x v
def keyH (w : World) : Key → Int
  | .inl k => hashInt k
  | .inr x => hashStr w x
theorem keyIs_shape : ∀ {k : Key} {v : Value}, keyIs k v = true → (∃ i t, k = Sum.inl i ∧ v = Value.int i t) ∨ (∃ x t, k = Sum.inr x ∧ v = Value.str x t)
  | .inl i, v, h => by
    obtain ⟨t, e⟩ := Value.isInt_shape (k := i) (v := v) h
    exact .inl ⟨i, t, rfl, e⟩
  | .inr x, v, h => by
    obtain ⟨t, e⟩ := Value.isStrOf_shape (x := x) (v := v) h
    exact .inr ⟨x, t, rfl, e⟩
theorem keyIs_int (i : Int) (t : Tok) : keyIs (.inl i) (.int i t) = true := by simp [keyIs, Value.isInt]
theorem keyIs_str (x : Str) (t : Tok) : keyIs (.inr x) (.str x t) = true := by simp [keyIs, Value.isStrOf]
theorem key_ll (a b : Int) : decide ((Sum.inl a : Key) = Sum.inl b) = (a == b) := by
  by_cases e : a = b
  · subst e; simp
  · have h : ¬ (Sum.inl a : Key) = Sum.inl b := fun q => e (Sum.inl.inj q)
    rw [decide_eq_false h]
    exact (beq_eq_false_iff_ne.mpr e).symm
theorem key_rr (a b : Str) : decide ((Sum.inr a : Key) = Sum.inr b) = decide (a = b) := by
  by_cases e : a = b
  · subst e; simp
  · have h : ¬ (Sum.inr a : Key) = Sum.inr b := fun q => e (Sum.inr.inj q)
    rw [decide_eq_false h, decide_eq_false e]
theorem key_lr (a : Int) (b : Str) : decide ((Sum.inl a : Key) = Sum.inr b) = false := decide_eq_false (fun q => nomatch q)
theorem key_rl (a : Str) (b : Int) : decide ((Sum.inr a : Key) = Sum.inl b) = false := decide_eq_false (fun q => nomatch q)
def mixKind (prog : Program) (w : World) : PySem.KeyKind prog w Key where
  is := keyIs
  hash := keyH w
  inj := fun v a b ha hb => by
    rcases keyIs_shape ha with ⟨i, t, rfl, rfl⟩ | ⟨x, t, rfl, rfl⟩
    · rcases keyIs_shape hb with ⟨j, u, rfl, e⟩ | ⟨y, u, rfl, e⟩
      · injection e with e1 _; rw [e1]
      · exact nomatch e
    · rcases keyIs_shape hb with ⟨j, u, rfl, e⟩ | ⟨y, u, rfl, e⟩
      · exact nomatch e
      · injection e with e1 _; rw [e1]
  byValue := fun k v h => by
    rcases keyIs_shape h with ⟨i, t, rfl, rfl⟩ | ⟨x, t, rfl, rfl⟩ <;> rfl
  pyHash := fun hv h => by
    rcases keyIs_shape hv with ⟨i, t, rfl, rfl⟩ | ⟨x, t, rfl, rfl⟩
    · exact wpAny_pyHash_int h
    · exact wpAny_pyHash_str h
  eqBool := fun hu hv h => by
    rcases keyIs_shape hu with ⟨i, t, rfl, rfl⟩ | ⟨x, t, rfl, rfl⟩
    · rcases keyIs_shape hv with ⟨j, u, rfl, rfl⟩ | ⟨y, u, rfl, rfl⟩
      · rw [key_ll] at h; exact wpAny_eqBool_int h
      · rw [key_lr] at h; exact SeqAt.EqAt.int_str i t y u _ _ _ _ h
    · rcases keyIs_shape hv with ⟨j, u, rfl, rfl⟩ | ⟨y, u, rfl, rfl⟩
      · rw [key_rl] at h; exact SeqAt.EqAt.str_int x t j u _ _ _ _ h
      · rw [key_rr] at h; exact wpAny_eqBool_str h
  «strs» := fun k x t v h => by
    rcases keyIs_shape h with ⟨i, u, rfl, e⟩ | ⟨y, u, rfl, e⟩
    · exact nomatch e
    · injection e with e1 _
      subst e1
      cases v <;> rfl
theorem mixKind_int (prog : Program) (w : World) (i : Int) (t : Tok) : (mixKind prog w).is (.inl i) (.int i t) = true := keyIs_int i t
theorem mixKind_str (prog : Program) (w : World) (x : Str) (t : Tok) : (mixKind prog w).is (.inr x) (.str x t) = true := keyIs_str x t
end L2
namespace L2
open PySem PySem.Spec PyProof.Rows
inductive V where
  | non | bl (b : Bool) | int (i : Int) | str (x : Str) | byt (b : Array UInt8) | flt (b : UInt64) | ref (a : Addr) | ty (n : String)
  deriving DecidableEq
def RelV : V → Value → Prop
  | .non, u => u = Value.none
  | .bl b, u => u = Value.bool b
  | .int i, u => ∃ t, u = Value.int i t
  | .str x, u => ∃ t, u = Value.str x t
  | .byt b, u => ∃ t, u = Value.bytes b t
  | .flt b, u => ∃ t, u = Value.float b t
  | .ref a, u => u = Value.ref a
  | .ty n, u => u = Value.type n
abbrev Vals : List V → List Value → Prop := Paired RelV
theorem Vals.length {xs : List V} {us : List Value} (r : Vals xs us) : xs.length = us.length := Paired.length r
theorem Vals.get : ∀ {xs : List V} {us : List Value} {i : Nat} {x : V}, Vals xs us → xs[i]? = some x → ∃ u, us[i]? = some u ∧ RelV x u
  | _, _, _, _, .nil, e => by simp at e
  | _, _, 0, _, .cons r _, e => by simp at e; subst e; exact ⟨_, rfl, r⟩
  | _, _, i + 1, x, .cons _ t, e => by
    obtain ⟨u, h1, h2⟩ := Vals.get (i := i) (x := x) t (by simpa using e)
    exact ⟨u, by simpa using h1, h2⟩
theorem Vals.set {x : V} {u : Value} (r : RelV x u) : ∀ {xs : List V} {us : List Value} (i : Nat), Vals xs us → Vals (xs.set i x) (us.set i u)
  | _, _, _, .nil => .nil
  | _, _, 0, .cons _ t => .cons r t
  | _, _, i + 1, .cons q t => .cons q (Vals.set r i t)
theorem Vals.append : ∀ {xs ys : List V} {us ws : List Value}, Vals xs us → Vals ys ws → Vals (xs ++ ys) (us ++ ws)
  | _, _, _, _, .nil, s => s
  | _, _, _, _, .cons r t, s => .cons r (Vals.append t s)
theorem Vals.take : ∀ {xs : List V} {us : List Value} (n : Nat), Vals xs us → Vals (xs.take n) (us.take n)
  | _, _, 0, _ => .nil
  | _, _, _ + 1, .nil => .nil
  | _, _, n + 1, .cons r t => .cons r (Vals.take n t)
theorem Vals.drop : ∀ {xs : List V} {us : List Value} (n : Nat), Vals xs us → Vals (xs.drop n) (us.drop n)
  | _, _, 0, r => r
  | _, _, _ + 1, .nil => .nil
  | _, _, n + 1, .cons _ t => Vals.drop n t
theorem Vals.none_of : ∀ {xs : List V} {us : List Value} {i : Nat}, Vals xs us → xs[i]? = none → us[i]? = none := fun {xs us i} r e => by
  have h1 := r.length
  have h2 : xs.length ≤ i := List.getElem?_eq_none_iff.mp e
  exact List.getElem?_eq_none_iff.mpr (by omega)
def RelO : Option V → Option Value → Prop
  | some v, some u => RelV v u
  | none, none => True
  | _, _ => False
def KV {κ : Type} : List (κ × V) → List (κ × Value) → Prop := Paired fun (p : κ × V) (q : κ × Value) => p.1 = q.1 ∧ RelV p.2 q.2
def kV : Key → V
  | .inl i => .int i
  | .inr x => .str x
inductive HO where
  /-- a list -/
  | lst (xs : List V)
  /-- a tuple (never changes) -/
  | tup (xs : List V)
  /-- a dict whose keys are ints and texts; one whose keys are tuples of ints and texts (the empty one is both) -/
  | dK (kvs : List (Key × V)) | dT (kvs : List (List Key × V))
  /-- a set of ints: its members, its size -/
  | set (S : Int → Bool) (n : Nat)
  /-- an instance of the class at C, its dict at dx, its attributes -/
  | ins (C dx : Addr) (fs : List (Str × V))
  /-- the dict of the instance at x -/
  | own (x : Addr)
  /-- the dict of an exception -/
  | xd (fs : List (Str × V))
  /-- a bound method, f of x -/
  | met (f x : Addr)
  /-- a range object lo, lo + 1, .. below hi -/
  | rng (lo hi : Int)
  /-- a thing that is known to the object (the script; a dict while a loop walks it): read, never written while it is so -/
  | frz (o : Obj) (u : HO)
  /-- a code object's table -/
  | tbl (ps : Array Value)
  /-- any other thing, by what is true of its one object (a def of one's own: SetO a S n := HO.ext fun h => ..) -/
  | ext (φ : Heap → Prop)
abbrev Hp := Addr → Option HO
def upd (H : Hp) (a : Addr) (o : HO) : Hp := fun b => if b = a then some o else H b
theorem upd_same {H : Hp} {a : Addr} {o : HO} : upd H a o a = some o := by unfold upd; rw [if_pos rfl]
theorem upd_ne {H : Hp} {a b : Addr} {o : HO} (h : b ≠ a) : upd H a o b = H b := by unfold upd; rw [if_neg h]
theorem ne_of {H : Hp} {a b : Addr} {o u : HO} (h : H a = some o) (h' : H b = some u) (d : o ≠ u) : a ≠ b := by
  intro e; subst e; rw [h] at h'; exact d (Option.some.inj h')
theorem ne_of_none {H : Hp} {a b : Addr} {o : HO} (h : H a = some o) (h' : H b = none) : a ≠ b := by
  intro e; subst e; rw [h] at h'; cases h'
section
variable (P : Program) (w : World)
def ObjOk (H : Hp) (h : Heap) (a : Addr) : HO → Prop
  | .lst xs => xs.length ≤ sizeLine ∧ ∃ (its : List Value) (n : Nat), Vals xs its ∧ h.get? a = some { cls := .type "list", data := .seq its.toArray n }
  | .tup xs => xs.length ≤ sizeLine ∧ ∃ its : List Value, Vals xs its ∧ IsTup h a its.toArray ∧ ∃ o, h.get? a = some o ∧ o.dict = none
  | .dK kvs => kvs.length ≤ sizeLine ∧ (a == sysModules) = false ∧ ∃ vs, KV kvs vs ∧ h.DictOf (mixKind P w) a vs
  | .dT kvs => kvs.length ≤ sizeLine ∧ (a == sysModules) = false ∧ ∃ xs : List (List Key × Addr × Value),
      Paired (fun (p : List Key × V) (q : List Key × Addr × Value) => p.1 = q.1 ∧ H q.2.1 = some (.tup (p.1.map kV)) ∧ RelV p.2 q.2.2) kvs xs ∧
      ∃ o es ep, h.get? a = some o ∧ o.ExactDict ∧ o.data = .dict es ep ∧ es.toList = xs.map (entryOfKey (tupleKind (mixKind P w))) ∧ (xs.map (·.1)).Nodup
  | .set S n => h.SetOf (intKind P w) a S n
  | .ins C dx fs => H dx = some (.own a) ∧ fs.length ≤ 1000 ∧ dx ≠ a ∧ h.get? a = some (PySem.W.instObj C dx) ∧
      ∃ mA, h.Ns1 dx mA ∧ (∀ f, RelO (fs.lookup f) (mA f)) ∧ PySem.Within mA (fs.map (·.1))
  | .own _ => ∃ o, h.get? a = some o
  | .xd fs => ∃ mA, h.Ns1 a mA ∧ ∀ f, RelO (fs.lookup f) (mA f)
  | .rng lo hi => ∃ t u v, h.get? a = some { cls := .type "range", data := .fields #[.int lo t, .int hi u, .int 1 v] }
  | .frz o u => h.get? a = some o ∧ ObjOk H h a u
  | .tbl ps => h.get? a = some { cls := .none, data := .fields ps }
  | .met f x => h.get? a = some (PySem.W.methodObj (.ref f) (.ref x))
  | .ext φ => φ h ∧ (∃ o, h.get? a = some o) ∧ ∀ h1 h2 : Heap, φ h1 → (∀ o, h1.get? a = some o → h2.get? a = some o) → φ h2
def HOk (H : Hp) (h : Heap) : Prop := ∀ a o, H a = some o → ObjOk P w H h a o
end
section
variable {P : Program} {w : World} {H H' : Hp} {h h' : Heap} {a : Addr} {o : HO}
theorem ObjOk.lt (x : ObjOk P w H h a o) : a < h.objs.size := by
  cases o with
  | lst xs => obtain ⟨_, _, _, _, e⟩ := x; exact Heap.lt_size e
  | tup xs => obtain ⟨_, _, _, p, _⟩ := x; exact p.lt
  | dK kvs => obtain ⟨_, _, _, _, o, _, _, e, _⟩ := x; exact Heap.lt_size e
  | dT kvs => obtain ⟨_, _, _, _, o, _, _, e, _⟩ := x; exact Heap.lt_size e
  | set S n => obtain ⟨o, _, _, _, e, _⟩ := x; exact Heap.lt_size e
  | ins C dx fs => obtain ⟨_, _, _, e, _⟩ := x; exact Heap.lt_size e
  | own y => obtain ⟨_, e⟩ := x; exact Heap.lt_size e
  | xd fs => obtain ⟨_, ⟨_, _, _, e, _⟩, _⟩ := x; exact Heap.lt_size e
  | rng lo hi => obtain ⟨_, _, _, e⟩ := x; exact Heap.lt_size e
  | frz ob u => obtain ⟨e, _⟩ := x; exact Heap.lt_size e
  | tbl ps => exact Heap.lt_size (show h.get? a = some _ from x)
  | met f y => exact Heap.lt_size (show h.get? a = some _ from x)
  | ext φ => obtain ⟨_, ⟨_, e⟩, _⟩ := x; exact Heap.lt_size e
theorem Paired.mapP {α β : Type} {F G : α → β → Prop} : ∀ {l₁ : List α} {l₂ : List β}, Paired F l₁ l₂ → (∀ a b, F a b → G a b) → Paired G l₁ l₂
  | _, _, .nil, _ => .nil
  | _, _, .cons r t, f => .cons (f _ _ r) (Paired.mapP t f)
theorem ObjOk.stay (x : ObjOk P w H h a o) (k : ∀ b u, (b = a ∨ H b = some (.own a)) → h.get? b = some u → h'.get? b = some u)
    (ho : ∀ b, H b = some (.own a) → H' b = some (.own a)) (ht : ∀ b xs, H b = some (.tup xs) → H' b = some (.tup xs)) : ObjOk P w H' h' a o := by
  induction o with
  | lst xs => obtain ⟨z, its, n, r, e⟩ := x; exact ⟨z, its, n, r, k _ _ (.inl rfl) e⟩
  | tup xs => obtain ⟨z, its, r, ⟨ob, e, c⟩, b2, e2, d2⟩ := x; exact ⟨z, its, r, ⟨ob, k _ _ (.inl rfl) e, c⟩, b2, k _ _ (.inl rfl) e2, d2⟩
  | dK kvs => obtain ⟨z, y, vs, r, ob, es, ep, e, c⟩ := x; exact ⟨z, y, vs, r, ob, es, ep, k _ _ (.inl rfl) e, c⟩
  | dT kvs =>
    obtain ⟨z, y, xs, r, ob, es, ep, e, c⟩ := x
    exact ⟨z, y, xs, Paired.mapP r fun p q z => ⟨z.1, ht _ _ z.2.1, z.2.2⟩, ob, es, ep, k _ _ (.inl rfl) e, c⟩
  | set S n => obtain ⟨ob, es, ep, t, e, c⟩ := x; exact ⟨ob, es, ep, t, k _ _ (.inl rfl) e, c⟩
  | ins C dx fs =>
    obtain ⟨d, z, ne, e, mA, ⟨od, es, ep, e2, c⟩, r⟩ := x
    exact ⟨ho _ d, z, ne, k _ _ (.inl rfl) e, mA, ⟨od, es, ep, k _ _ (.inr d) e2, c⟩, r⟩
  | own y => obtain ⟨ob, e⟩ := x; exact ⟨ob, k _ _ (.inl rfl) e⟩
  | xd fs => obtain ⟨mA, ⟨od, es, ep, e, c⟩, r⟩ := x; exact ⟨mA, ⟨od, es, ep, k _ _ (.inl rfl) e, c⟩, r⟩
  | rng lo hi => obtain ⟨t, u, v, e⟩ := x; exact ⟨t, u, v, k _ _ (.inl rfl) e⟩
  | frz ob u ih => obtain ⟨e, q⟩ := x; exact ⟨k _ _ (.inl rfl) e, ih q⟩
  | tbl ps =>
    have e : h.get? a = some { cls := .none, data := .fields ps } := x
    show h'.get? a = some { cls := .none, data := .fields ps }
    exact k a _ (.inl rfl) e
  | met f y =>
    have e : h.get? a = some (PySem.W.methodObj (.ref f) (.ref y)) := x
    show h'.get? a = some (PySem.W.methodObj (.ref f) (.ref y))
    exact k a _ (.inl rfl) e
  | ext φ => obtain ⟨p, ⟨o, e⟩, st⟩ := x; exact ⟨st _ _ p fun o q => k _ _ (.inl rfl) q, ⟨o, k _ _ (.inl rfl) e⟩, st⟩
theorem HOk.lt (x : HOk P w H h) (e : H a = some o) : a < h.objs.size := (x a o e).lt
theorem HOk.fresh (x : HOk P w H h) (e : h.objs.size ≤ a) : H a = none := by
  cases q : H a with
  | none => rfl
  | some u => exact absurd (Nat.lt_of_lt_of_le (x.lt q) e) (Nat.lt_irrefl _)
theorem HOk.kept (x : HOk P w H h) (k : ∀ b u, h.get? b = some u → h'.get? b = some u) : HOk P w H h' := fun a o e =>
  (x a o e).stay (fun b u _ q => k b u q) (fun _ q => q) fun _ _ q => q
theorem HOk.laid (x : HOk P w H h) (k : ∀ b u, h.get? b = some u → h'.get? b = some u) (hp : h.objs.size ≤ a) (new : ObjOk P w (upd H a o) h' a o) : HOk P w (upd H a o) h' := fun b u e => by
  have hn := x.fresh hp
  by_cases hb : b = a
  · subst hb; rw [upd_same] at e; cases e; exact new
  · rw [upd_ne hb] at e
    exact (x b u e).stay (fun c v _ q => k c v q) (fun c q => by rw [upd_ne (ne_of_none q hn)]; exact q) fun c xs q => by rw [upd_ne (ne_of_none q hn)]; exact q
end
def Rd (H : Hp) (a : Addr) (u : HO) : Prop := H a = some u ∨ ∃ o, H a = some (.frz o u)
theorem Rd.of {H : Hp} {a : Addr} {u : HO} (h : H a = some u) : Rd H a u := .inl h
theorem Rd.ok {P : Program} {w : World} {H : Hp} {h : Heap} {a : Addr} {u : HO} (r : Rd H a u) (x : HOk P w H h) : ObjOk P w H h a u := by
  rcases r with r | ⟨o, r⟩
  · exact x a u r
  · obtain ⟨_, q⟩ := x a _ r
    exact q
def Mut : Option HO → Prop
  | some (.lst _) => True
  | some (.dK _) => True
  | some (.dT _) => True
  | some (.set _ _) => True
  | some (.ins _ _ _) => True
  | some (.ext _) => True
  | _ => False
section
variable {P : Program} {w : World} {H : Hp} {h h' : Heap} {x e : Addr} {o' : HO}
theorem HOk.write (ok : HOk P w H h) (mu : Mut (H x)) (he : e = x ∨ H e = some (.own x)) (k : ∀ b u, b ≠ e → h.get? b = some u → h'.get? b = some u) (heo : ∃ u, h'.get? e = some u)
    (new : ObjOk P w (upd H x o') h' x o') : HOk P w (upd H x o') h' := fun b u q => by
  have nown : ∀ c y, H c = some (.own y) → c ≠ x := fun c y r z => by subst z; rw [r] at mu; exact mu
  have ntup : ∀ c xs, H c = some (.tup xs) → c ≠ x := fun c xs r z => by subst z; rw [r] at mu; exact mu
  by_cases hb : b = x
  · subst hb; rw [upd_same] at q; cases q; exact new
  · rw [upd_ne hb] at q
    by_cases hbe : b = e
    · have q' : H b = some (.own x) := by
        rcases he with z | z
        · exact absurd (hbe.trans z) hb
        · rw [hbe]; exact z
      rw [q] at q'; cases q'
      obtain ⟨v, hv⟩ := heo
      exact ⟨v, by rw [hbe]; exact hv⟩
    · refine (ok b u q).stay (fun c v hc r => k c v ?_ r) (fun c r => by rw [upd_ne (nown c b r)]; exact r) fun c xs r => by rw [upd_ne (ntup c xs r)]; exact r
      rcases hc with rfl | hc
      · exact hbe
      · rintro rfl
        rcases he with z | z
        · exact nown c b hc z
        · rw [hc] at z; cases z; exact hb rfl
end
structure Un (fs ex : List Addr) (H H' : Hp) (h h' : Heap) : Prop where
  keep : ∀ b o, h.get? b = some o → H b = none → b ∉ fs → b ∉ ex → h'.get? b = some o
  slot : ∀ b o, h.get? b = some o → H b = none → b ∈ fs → b ∉ ex → ∃ sl, h'.get? b = some { o with slots := sl }
  free : ∀ b o, h.get? b = some o → H b = none → b ∉ ex → H' b = none
  there : ∀ b o, h.get? b = some o → b ∉ ex → ∃ o', h'.get? b = some o'
  tups : ∀ b xs, H b = some (.tup xs) → H' b = some (.tup xs)
  frzs : ∀ b o u, H b = some (.frz o u) → H' b = some (.frz o u)
  tbls : ∀ b ps, H b = some (.tbl ps) → ∃ more, H' b = some (.tbl (ps ++ more))
section
variable {fs fs' ex ex' : List Addr} {H H1 H2 : Hp} {h h1 h2 h' : Heap} {a x e : Addr} {o : HO}
theorem Un.any (u : Un fs ex H H1 h h1) {b : Addr} {ob : Obj} (q : h.get? b = some ob) (n : H b = none) (hx : b ∉ ex) : ∃ sl, h1.get? b = some { ob with slots := sl } := by
  by_cases hb : b ∈ fs
  · exact u.slot b ob q n hb hx
  · exact ⟨ob.slots, u.keep b ob q n hb hx⟩
theorem Un.trans (a : Un fs ex H H1 h h1) (b : Un fs ex H1 H2 h1 h2) : Un fs ex H H2 h h2 where
  keep := fun c ob q n hc hx => b.keep c ob (a.keep c ob q n hc hx) (a.free c ob q n hx) hc hx
  slot := fun c ob q n hc hx => by
    obtain ⟨sl, e1⟩ := a.slot c ob q n hc hx
    obtain ⟨sl', e2⟩ := b.slot c _ e1 (a.free c ob q n hx) hc hx
    exact ⟨sl', e2⟩
  free := fun c ob q n hx => by
    obtain ⟨o', e1⟩ := a.there c ob q hx
    exact b.free c o' e1 (a.free c ob q n hx) hx
  there := fun c ob q hx => by
    obtain ⟨o', e1⟩ := a.there c ob q hx
    exact b.there c o' e1 hx
  tups := fun c xs q => b.tups c xs (a.tups c xs q)
  frzs := fun c ob xs q => b.frzs c ob xs (a.frzs c ob xs q)
  tbls := fun c ps q => by
    obtain ⟨m1, e1⟩ := a.tbls c ps q
    obtain ⟨m2, e2⟩ := b.tbls c _ e1
    exact ⟨m1 ++ m2, by rw [e2, Array.append_assoc]⟩
theorem Un.kept (k : ∀ b u, h.get? b = some u → h'.get? b = some u) : Un fs ex H H h h' :=
  ⟨fun b ob q _ _ _ => k b ob q, fun b ob q _ _ _ => ⟨ob.slots, k b ob q⟩, fun _ _ _ n _ => n, fun b ob q _ => ⟨ob, k b ob q⟩, fun _ _ q => q, fun _ _ _ q => q, fun _ ps q => ⟨#[], by rw [q]; simp⟩⟩
theorem Un.refl : Un fs ex H H h h := Un.kept fun _ _ q => q
theorem Un.laid (k : ∀ b u, h.get? b = some u → h'.get? b = some u) (hp : h.objs.size ≤ a) (hn : H a = none) : Un fs ex H (upd H a o) h h' where
  keep := fun b u q _ _ _ => k b u q
  slot := fun b u q _ _ _ => ⟨u.slots, k b u q⟩
  free := fun b u q n _ => by rw [upd_ne (Nat.ne_of_lt (Nat.lt_of_lt_of_le (Heap.lt_size q) hp))]; exact n
  there := fun b u q _ => ⟨u, k b u q⟩
  tups := fun b xs q => by rw [upd_ne (ne_of_none q hn)]; exact q
  frzs := fun b u xs q => by rw [upd_ne (ne_of_none q hn)]; exact q
  tbls := fun b ps q => ⟨#[], by rw [upd_ne (ne_of_none q hn), q]; simp⟩
theorem Un.write (mu : Mut (H x)) (he : e = x ∨ H e = some (.own x)) (k : ∀ b u, b ≠ e → h.get? b = some u → h'.get? b = some u) (heo : ∃ u, h'.get? e = some u) : Un fs ex H (upd H x o) h h' := by
  have hx : ∀ b, H b = none → b ≠ x := fun b n z => by subst z; rw [n] at mu; exact mu
  have hb : ∀ b, H b = none → b ≠ e := fun b n z => by
    subst z
    rcases he with r | r
    · exact hx b n r
    · rw [n] at r; cases r
  have hm : ∀ b u, H b = some u → ¬ Mut (some u) → b ≠ x := fun b u q nm z => by subst z; rw [q] at mu; exact nm mu
  refine ⟨fun b u q n _ _ => k b u (hb b n) q, fun b u q n _ _ => ⟨u.slots, k b u (hb b n) q⟩, fun b u q n _ => by rw [upd_ne (hx b n)]; exact n, fun b u q _ => ?_,
    fun b xs q => by rw [upd_ne (hm b _ q fun z => z)]; exact q, fun b u xs q => by rw [upd_ne (hm b _ q fun z => z)]; exact q, fun b ps q => ⟨#[], by rw [upd_ne (hm b _ q fun z => z), q]; simp⟩⟩
  by_cases hbe : b = e
  · subst hbe; exact heo
  · exact ⟨u, k b u hbe q⟩
theorem Un.mono (u : Un fs ex H H1 h h1) (hs : ∀ b ∈ fs, b ∈ fs') (hx : ∀ b ∈ ex, b ∈ ex') : Un fs' ex' H H1 h h1 :=
  ⟨fun b ob q n hb he => u.keep b ob q n (fun z => hb (hs b z)) fun z => he (hx b z), fun _ _ q n _ he => u.any q n fun z => he (hx _ z), fun b ob q n he => u.free b ob q n fun z => he (hx b z), fun b ob q he => u.there b ob q fun z => he (hx b z), u.tups, u.frzs, u.tbls⟩
end
def trk (h : Heap) (H : Hp) : List Addr := (List.range h.objs.size).filter fun a => (H a).isSome
def hidT (h : Heap) (H : Hp) : Heap := PySem.W.hideAll h (trk h H)
theorem hidT_size (h : Heap) (H : Hp) : (hidT h H).objs.size = h.objs.size := PySem.W.hideAll_size _ _
theorem hidT_get {h : Heap} {H : Hp} {b : Addr} {o : Obj} (e : h.get? b = some o) (n : H b = none) : (hidT h H).get? b = some o :=
  PySem.W.hideAll_get _ e fun hm => by
    have q : (H b).isSome = true := (List.mem_filter.mp hm).2
    rw [n] at q; simp at q
theorem of_hidT {h : Heap} {H : Hp} {b : Addr} {o : Obj} (e : (hidT h H).get? b = some o) : h.get? b = some o ∧ H b = none := by
  have e' : h.get? b = some o := PySem.W.of_hideAll (trk h H) e
  refine ⟨e', ?_⟩
  cases q : H b with
  | none => rfl
  | some x =>
    have hm : b ∈ trk h H := List.mem_filter.mpr ⟨List.mem_range.mpr (Heap.lt_size e'), by simp [q]⟩
    have z : (hidT h H).get? b = none := PySem.W.hideAll_none (trk h H) hm
    rw [z] at e; cases e
def allNews (g h : Heap) (L : Addr) : List (Addr × Obj) := (List.range h.objs.size).filterMap fun a => if a = L ∨ (g.get? a).isSome = true then none else (h.get? a).map fun o => (a, o)
def rest (g h : Heap) (L d : Addr) : List (Addr × Obj) := (allNews g h L).filter fun p => decide (p.1 ≠ d)
end L2
namespace L2
open PySem PySem.Spec PyProof.Rows
structure Mod (K : PySem.W.Frag) (mg : Str → Option Value) (base : Heap) : Prop where
  kin : K.In base
  glob : base.Ns mainGlobals mg
  blt : ∃ mb, base.Ns builtinsNs mb ∧ ∀ x : Str, x ≠ "__name__" → mb x = bootBuiltins x
  nolimit : base.NoLimit
structure Cx where
  prog : Program
  w : World
  K : PySem.W.Frag
  mg : Str → Option Value
  base : Heap
  A : Around
  N : List Str
  s_0 : Shared
  H_0 : Hp
  env : Env
  outer : List Env
  stack : List Env
  ex : List Addr
  fn : Str → Bool
  calm : Bool
  pn : List (Addr × Obj)
  xe : Value → Shared → Prop
def frs (l : List Env) : List Addr := l.filterMap (·.frame)
abbrev Cx.fs (X : Cx) : List Addr := frs X.outer
def Vis (sc : Scope) (x : Str) : Prop := sc.names.lookup x = some .local ∨ sc.names.lookup x = some .cell ∨ sc.names.lookup x = some .free
def Loc (sc : Scope) (x : Str) : Prop := sc.names.lookup x = some .local ∨ sc.names.lookup x = some .cell
def Look (env : Env) (h : Heap) (m : Str → Option Value) (x : Str) (u : Value) : Prop :=
  (env.kindOf x = some .local ∧ m x = some u) ∨ ((env.kindOf x = some .cell ∨ env.kindOf x = some .free) ∧ ∃ c, env.cells.lookup x = some c ∧ h.IsCell c (some u))
structure Cx.Ok (X : Cx) : Prop where
  mod : Mod X.K X.mg X.base
  kind : X.env.scope.kind = .function
  glob : X.env.globals = mainGlobals
  blt : X.env.builtins = builtinsNs
  above : X.s_0.heap.objs.size ≤ X.env.locals
  inj : ∀ x y c, X.env.cells.lookup x = some c → X.env.cells.lookup y = some c → x = y
  has : ∀ x, (X.env.kindOf x = some .cell ∨ X.env.kindOf x = some .free) → ∃ c, X.env.cells.lookup x = some c
  cab : ∀ x c, X.fn x = true → X.env.cells.lookup x = some c → X.s_0.heap.objs.size ≤ c
  hd : X.calm = true → X.A.handled = none
  frames : X.A.frames = some X.stack
  stk : X.stack = X.outer ∨ (X.stack = X.env :: X.outer ∧ X.env.frame = some X.env.locals)
  exf : ∀ b ∈ X.ex, b ≠ X.env.locals ∧ ∀ x c, X.env.cells.lookup x = some c → c ≠ b
  bs : ∀ b o, X.base.get? b = some o → X.s_0.heap.get? b = some o ∧ X.H_0 b = none
  bsz : X.base.objs.size ≤ X.s_0.heap.objs.size
  noex : ∀ b o, X.base.get? b = some o → b ∉ X.ex
  exfs : ∀ b ∈ X.ex, b ∉ X.fs
  funs : X.s_0.heap.FunFrames X.base X.outer
  frf : ∀ b ∈ X.fs, X.H_0 b = none
structure Inv (X : Cx) (pins : List (Addr × Obj)) (σ : List (Option V)) (H : Hp) (s : Shared) : Prop where
  ok : X.Ok
  os : s.os = X.s_0.os
  bare : AllBare s.gens
  base : Un X.fs X.ex X.H_0 H X.s_0.heap s.heap
  loc : ∃ m, s.heap.Ns X.env.locals m ∧ ∀ (i : Nat) (x : Str) (v : V), X.N[i]? = some x → σ[i]? = some (some v) → Vis X.env.scope x → ∃ u, RelV v u ∧ Look X.env s.heap m x u
  cell : ∀ x c, X.env.cells.lookup x = some c → ∃ v, s.heap.IsCell c v
  free : H X.env.locals = none
  freeC : ∀ x c, X.env.cells.lookup x = some c → H c = none
  pin : ∀ p ∈ X.pn ++ pins, s.heap.get? p.1 = some p.2 ∧ H p.1 = none ∧ p.1 ≠ X.env.locals ∧ p.1 ∉ X.fs ∧ ∀ v, p.2.data ≠ .cell v
  hok : HOk X.prog X.w H s.heap
  len : σ.length = X.N.length
section
variable {X : Cx} {pins : List (Addr × Obj)} {σ : List (Option V)} {H H' : Hp} {s : Shared} {h' : Heap}
theorem Cx.Ok.nofr (ok : X.Ok) {b : Addr} {o : Obj} (e : X.base.get? b = some o) : b ∉ X.fs := fun hb => by
  have := (ok.funs.mem hb).1
  rw [e] at this; cases this
theorem Inv.bs (I : Inv X pins σ H s) : ∀ b o, X.base.get? b = some o → s.heap.get? b = some o ∧ H b = none := fun b o e =>
  ⟨I.base.keep b o (I.ok.bs b o e).1 (I.ok.bs b o e).2 (I.ok.nofr e) (I.ok.noex b o e), I.base.free b o (I.ok.bs b o e).1 (I.ok.bs b o e).2 (I.ok.noex b o e)⟩
theorem Inv.bk (I : Inv X pins σ H s) : ∀ b o, X.base.get? b = some o → s.heap.get? b = some o := fun b o e => (I.bs b o e).1
theorem Inv.mod (I : Inv X pins σ H s) : Mod X.K X.mg X.base := I.ok.mod
theorem Inv.kIn (I : Inv X pins σ H s) : X.K.In s.heap := I.ok.mod.kin.keeps I.bk
theorem Inv.nolimit (I : Inv X pins σ H s) : s.heap.NoLimit := I.ok.mod.nolimit.keeps I.bk
theorem Inv.fr (I : Inv X pins σ H s) : ∃ m, Fr X.base X.env.locals s.heap m :=
  let ⟨m, hn, _⟩ := I.loc
  ⟨m, hn, I.bk, Nat.le_trans I.ok.bsz I.ok.above⟩
theorem Inv.lt (I : Inv X pins σ H s) : X.env.locals < s.heap.objs.size := let ⟨_, hn, _⟩ := I.loc; hn.lt
theorem Inv.sz (I : Inv X pins σ H s) : X.s_0.heap.objs.size ≤ s.heap.objs.size := Nat.le_trans I.ok.above (Nat.le_of_lt I.lt)
theorem Inv.nofs (I : Inv X pins σ H s) {a : Addr} (h : s.heap.objs.size ≤ a) : a ∉ X.fs := fun hb => by
  obtain ⟨_, o, ho, _⟩ := I.ok.funs.mem hb
  exact absurd (Nat.lt_of_lt_of_le (Heap.lt_size ho) (Nat.le_trans I.sz h)) (Nat.lt_irrefl _)
theorem Inv.cne (I : Inv X pins σ H s) : ∀ x c, X.env.cells.lookup x = some c → c ≠ X.env.locals := fun x c e z => by
  obtain ⟨v, o, ho, hd⟩ := I.cell x c e
  obtain ⟨m, ⟨o', es, ep, ho', hd', _⟩, _⟩ := I.loc
  rw [z, ho'] at ho; cases ho; rw [hd'] at hd; cases hd
theorem Inv.funs (I : Inv X pins σ H s) : s.heap.FunFrames X.base X.outer := by
  have all : ∀ (l : List Env), (∀ b ∈ frs l, b ∈ X.fs) → X.s_0.heap.FunFrames X.base l → s.heap.FunFrames X.base l := by
    intro l
    induction l with
    | nil => intro _ _; trivial
    | cons env r ih =>
      intro hs hl
      obtain ⟨hk, ⟨L, o, hf, hn, ho, hd⟩, hr⟩ := hl
      have hL : L ∈ X.fs := hs L (by unfold frs; rw [List.filterMap_cons, hf]; exact List.mem_cons_self)
      obtain ⟨sl, e⟩ := I.base.slot L o ho (I.ok.frf L hL) hL fun z => I.ok.exfs L z hL
      exact ⟨hk, ⟨L, _, hf, hn, e, hd⟩, ih (fun b hb => hs b (by unfold frs; rw [List.filterMap_cons, hf]; exact List.mem_cons_of_mem _ hb)) hr⟩
  exact all X.outer (fun _ hb => hb) I.ok.funs
theorem Inv.stack (I : Inv X pins σ H s) : s.heap.FunFrames X.base X.stack := by
  rcases I.ok.stk with e | ⟨e, hf⟩
  · rw [e]; exact I.funs
  · rw [e]
    obtain ⟨m, hn, _⟩ := I.loc
    refine .cons (by rw [I.ok.kind]; decide) hf hn ?_ I.funs
    exact Heap.get?_none_of_le (Nat.le_trans I.ok.bsz I.ok.above)
theorem Inv.stkSub (I : Inv X pins σ H s) : ∀ b ∈ frs X.stack, b ∈ X.env.locals :: X.fs := fun b hb => by
  rcases I.ok.stk with e | ⟨e, hf⟩
  · rw [e] at hb; exact List.mem_cons_of_mem _ hb
  · rw [e] at hb
    unfold frs at hb
    rw [List.filterMap_cons, hf] at hb
    exact hb
theorem Inv.stkFree (I : Inv X pins σ H s) : ∀ b ∈ frs X.stack, H b = none := fun b hb => by
  rcases List.mem_cons.mp (I.stkSub b hb) with e | hb
  · rw [e]; exact I.free
  · obtain ⟨_, o, ho, _⟩ := I.ok.funs.mem hb
    exact I.base.free b o ho (I.ok.frf b hb) fun z => I.ok.exfs b z hb
theorem Inv.step {g' : Array GenState} {t' : Nat} {d' : Drawn} {ch : List Addr} (I : Inv X pins σ H s)
    (hch : ∀ b ∈ ch, (b ∈ X.ex ∨ X.s_0.heap.objs.size ≤ b) ∧ b ≠ X.env.locals ∧ (∀ x c, X.env.cells.lookup x = some c → c ≠ b) ∧ ∀ p ∈ X.pn ++ pins, p.1 ≠ b)
    (keep : ∀ b o, b ≠ X.env.locals → b ∉ X.fs → b ∉ ch → s.heap.get? b = some o → H b = none → h'.get? b = some o)
    (slot : ∀ b o, b ≠ X.env.locals → b ∈ X.fs → b ∉ ch → s.heap.get? b = some o → H b = none → ∃ sl, h'.get? b = some { o with slots := sl }) (free : ∀ b o, b ∉ ch → s.heap.get? b = some o → H b = none → H' b = none)
    (there : ∀ b o, b ∉ ch → s.heap.get? b = some o → ∃ o', h'.get? b = some o')
    (tups : ∀ b xs, H b = some (.tup xs) → H' b = some (.tup xs)) (frzs : ∀ b o u, H b = some (.frz o u) → H' b = some (.frz o u)) (tbls : ∀ b ps, H b = some (.tbl ps) → ∃ more, H' b = some (.tbl (ps ++ more)))
    (ns : ∀ m, s.heap.Ns X.env.locals m → h'.Ns X.env.locals m) (hok : HOk X.prog X.w H' h') (hg : AllBare g') :
    Inv X pins σ H' { s with heap := h', gens := g', drawn := d', toks := t' } := by
  have neL : ∀ b o, X.s_0.heap.get? b = some o → b ≠ X.env.locals := fun b o e => Nat.ne_of_lt (Nat.lt_of_lt_of_le (Heap.lt_size e) I.ok.above)
  have neC : ∀ b o, X.s_0.heap.get? b = some o → b ∉ X.ex → b ∉ ch := fun b o e hx hb => by
    rcases (hch b hb).1 with z | z
    · exact hx z
    · exact absurd (Nat.lt_of_lt_of_le (Heap.lt_size e) z) (Nat.lt_irrefl _)
  have cellK : ∀ x c, X.env.cells.lookup x = some c → ∀ v, s.heap.IsCell c v → h'.IsCell c v := fun x c e v ⟨o, ho, hd⟩ => by
    have nch : c ∉ ch := fun z => (hch c z).2.2.1 x c e rfl
    by_cases hc : c ∈ X.fs
    · obtain ⟨sl, q⟩ := slot c o (I.cne x c e) hc nch ho (I.freeC x c e)
      exact ⟨_, q, hd⟩
    · exact ⟨o, keep c o (I.cne x c e) hc nch ho (I.freeC x c e), hd⟩
  refine ⟨I.ok, I.os, hg, ⟨fun b o e n hb hx => ?_, fun b o e n hb hx => ?_, fun b o e n hx => ?_, fun b o e hx => ?_, fun b xs e => tups b xs (I.base.tups b xs e), fun b o xs e => frzs b o xs (I.base.frzs b o xs e), fun b ps e => ?_⟩, ?_, fun x c e => ?_, ?_, fun x c e => ?_, fun p hp => ?_, hok, I.len⟩
  · exact keep b o (neL b o e) hb (neC b o e hx) (I.base.keep b o e n hb hx) (I.base.free b o e n hx)
  · obtain ⟨sl, e1⟩ := I.base.slot b o e n hb hx
    obtain ⟨sl', e2⟩ := slot b _ (neL b o e) hb (neC b o e hx) e1 (I.base.free b o e n hx)
    exact ⟨sl', e2⟩
  · obtain ⟨o', e1⟩ := I.base.there b o e hx
    exact free b o' (neC b o e hx) e1 (I.base.free b o e n hx)
  · obtain ⟨o', e1⟩ := I.base.there b o e hx
    exact there b o' (neC b o e hx) e1
  · obtain ⟨m1, e1⟩ := I.base.tbls b ps e
    obtain ⟨m2, e2⟩ := tbls b _ e1
    exact ⟨m1 ++ m2, by rw [e2, Array.append_assoc]⟩
  · obtain ⟨m, hn, hl⟩ := I.loc
    refine ⟨m, ns m hn, fun i x v e1 e2 e3 => ?_⟩
    obtain ⟨u, r, l⟩ := hl i x v e1 e2 e3
    refine ⟨u, r, ?_⟩
    rcases l with l | ⟨k, c, e, z⟩
    · exact .inl l
    · exact .inr ⟨k, c, e, cellK x c e _ z⟩
  · obtain ⟨v, z⟩ := I.cell x c e
    exact ⟨v, cellK x c e v z⟩
  · obtain ⟨m, ⟨o, _, _, ho, _⟩, _⟩ := I.loc
    exact free _ o (fun z => (hch _ z).2.1 rfl) ho I.free
  · obtain ⟨v, o, ho, hd⟩ := I.cell x c e
    exact free c o (fun z => (hch c z).2.2.1 x c e rfl) ho (I.freeC x c e)
  · obtain ⟨e, n, ne, nf, d⟩ := I.pin p hp
    have nch : p.1 ∉ ch := fun z => (hch p.1 z).2.2.2 p hp rfl
    exact ⟨keep p.1 p.2 ne nf nch e n, free p.1 p.2 nch e n, ne, nf, d⟩
theorem Inv.un {t' : Nat} (I : Inv X pins σ H s) (u : Un X.fs [] H H' s.heap h') (hok : HOk X.prog X.w H' h') : Inv X pins σ H' { s with heap := h', toks := t' } := by
  obtain ⟨m, ⟨o, es, ep, ho, r⟩, _⟩ := id I.loc
  obtain ⟨sl, hL⟩ := u.any ho I.free (by simp)
  exact I.step (g' := s.gens) (d' := s.drawn) (ch := []) (fun _ z => nomatch z) (fun b o _ hb _ e n => u.keep b o e n hb (by simp)) (fun b o _ hb _ e n => u.slot b o e n hb (by simp)) (fun b o _ e n => u.free b o e n (by simp)) (fun b o _ e => u.there b o e (by simp)) u.tups u.frzs u.tbls (fun m' hm => by
    obtain ⟨o', es', ep', ho', r'⟩ := hm
    rw [ho] at ho'; cases ho'
    exact ⟨_, es', ep', hL, r'⟩) hok I.bare
theorem Inv.call {g' : Array GenState} {t' : Nat} {d' : Drawn} {ch : List Addr} (I : Inv X pins σ H s) (u : Un (frs X.stack) ch H H' s.heap h') (hok : HOk X.prog X.w H' h') (hg : AllBare g')
    (hch : ∀ b ∈ ch, (b ∈ X.ex ∨ X.s_0.heap.objs.size ≤ b) ∧ b ≠ X.env.locals ∧ (∀ x c, X.env.cells.lookup x = some c → c ≠ b) ∧ ∀ p ∈ X.pn ++ pins, p.1 ≠ b) :
    Inv X pins σ H' { s with heap := h', gens := g', drawn := d', toks := t' } := by
  obtain ⟨m, ⟨o, es, ep, ho, r⟩, _⟩ := id I.loc
  obtain ⟨sl, hL⟩ := u.any ho I.free fun z => (hch _ z).2.1 rfl
  exact I.step (ch := ch) hch (fun b o hL hb hc e n => u.keep b o e n (fun z => (List.mem_cons.mp (I.stkSub b z)).elim hL hb) hc) (fun b o _ _ hc e n => u.any e n hc) (fun b o hc e n => u.free b o e n hc) (fun b o hc e => u.there b o e hc) u.tups u.frzs u.tbls (fun m' hm => by
    obtain ⟨o', es', ep', ho', r'⟩ := hm
    rw [ho] at ho'; cases ho'
    exact ⟨_, es', ep', hL, r'⟩) hok hg
theorem Inv.turned {t' : Nat} {it : Addr} (I : Inv X pins σ H s) (k : ∀ b o, b ≠ it → s.heap.get? b = some o → h'.get? b = some o) (hn : H it = none) (hL : it ≠ X.env.locals)
    (h1 : it ∈ X.ex ∨ X.s_0.heap.objs.size ≤ it) (h2 : ∀ x c, X.env.cells.lookup x = some c → c ≠ it) (h3 : ∀ p ∈ X.pn ++ pins, p.1 ≠ it) : Inv X pins σ H { s with heap := h', toks := t' } := by
  have nit : ∀ b u, H b = some u → b ≠ it := fun b u e z => by rw [z, hn] at e; cases e
  refine I.step (g' := s.gens) (d' := s.drawn) (ch := [it]) (fun b hb => ?_) (fun b o _ _ hc e _ => k b o (fun z => hc (by simp [z])) e) (fun b o _ _ hc e _ => ⟨o.slots, k b o (fun z => hc (by simp [z])) e⟩) (fun _ _ _ _ n => n)
    (fun b o hc e => ⟨o, k b o (fun z => hc (by simp [z])) e⟩) (fun _ _ e => e) (fun _ _ _ e => e) (fun b ps e => ⟨#[], by rw [e]; simp⟩) (fun m hm => ?_) (fun b u e => ?_) I.bare
  · have e : b = it := by simpa using hb
    subst e
    exact ⟨h1, hL, h2, h3⟩
  · obtain ⟨o, es, ep, ho, r⟩ := hm
    exact ⟨o, es, ep, k _ o (Ne.symm hL) ho, r⟩
  · refine (I.hok b u e).stay (fun c v hc q => k c v ?_ q) (fun _ q => q) fun _ _ q => q
    rcases hc with z | z
    · rw [z]; exact nit b u e
    · exact nit c _ z
theorem Inv.tok (I : Inv X pins σ H s) (t : Nat) : Inv X pins σ H { s with toks := t } := I.un (h' := s.heap) (t' := t) Un.refl I.hok
theorem Inv.kept {t' : Nat} (I : Inv X pins σ H s) (k : ∀ b u, s.heap.get? b = some u → h'.get? b = some u) : Inv X pins σ H { s with heap := h', toks := t' } := I.un (Un.kept k) (I.hok.kept k)
theorem Inv.laid {a : Addr} {o : HO} {t' : Nat} (I : Inv X pins σ H s) (k : ∀ b u, s.heap.get? b = some u → h'.get? b = some u) (hp : s.heap.objs.size ≤ a) (new : ObjOk X.prog X.w (upd H a o) h' a o) :
    Inv X pins σ (upd H a o) { s with heap := h', toks := t' } := I.un (Un.laid k hp (I.hok.fresh hp)) (I.hok.laid k hp new)
theorem Inv.write {x e : Addr} {o : HO} {t' : Nat} (I : Inv X pins σ H s) (mu : Mut (H x)) (he : e = x ∨ H e = some (.own x)) (k : ∀ b u, b ≠ e → s.heap.get? b = some u → h'.get? b = some u) (heo : ∃ u, h'.get? e = some u)
    (new : ObjOk X.prog X.w (upd H x o) h' x o) : Inv X pins σ (upd H x o) { s with heap := h', toks := t' } := I.un (Un.write mu he k heo) (I.hok.write mu he k heo new)
theorem Inv.weak {σ' : List (Option V)} (I : Inv X pins σ H s) (hl : σ'.length = σ.length) (w : ∀ (i : Nat) v, σ'[i]? = some (some v) → σ[i]? = some (some v)) : Inv X pins σ' H s :=
  ⟨I.ok, I.os, I.bare, I.base, let ⟨m, hn, hl'⟩ := I.loc; ⟨m, hn, fun i x v e1 e2 e3 => hl' i x v e1 (w i v e2) e3⟩, I.cell, I.free, I.freeC, I.pin, I.hok, hl.trans I.len⟩
theorem Inv.pins_of {pins' : List (Addr × Obj)} (I : Inv X pins σ H s) (h : ∀ p ∈ pins', s.heap.get? p.1 = some p.2 ∧ H p.1 = none ∧ p.1 ≠ X.env.locals ∧ p.1 ∉ X.fs ∧ ∀ v, p.2.data ≠ .cell v) : Inv X pins' σ H s :=
  ⟨I.ok, I.os, I.bare, I.base, I.loc, I.cell, I.free, I.freeC, fun p hp => (List.mem_append.mp hp).elim (fun z => I.pin p (List.mem_append_left _ z)) (h p), I.hok, I.len⟩
theorem nodup_ix {N : List Str} (hN : N.Nodup) {i j : Nat} {x : Str} (a : N[i]? = some x) (b : N[j]? = some x) : i = j := by
  obtain ⟨h1, e1⟩ := List.getElem?_eq_some_iff.mp a
  obtain ⟨h2, e2⟩ := List.getElem?_eq_some_iff.mp b
  exact (List.getElem_inj hN).mp (e1.trans e2.symm)
theorem store_ok2 {M : Model} {A : Around} {E : Value → Shared → Prop} {i : Nat} {x : Str} {v : V} {u : Value} {Q : Unit → Shared → Prop} (I : Inv X pins σ H s) (hN : X.N.Nodup) (hi : X.N[i]? = some x) (hx : Loc X.env.scope x) (r : RelV v u)
    (h : ∀ s', Inv X pins (σ.set i (some v)) H s' → (∃ a, Heap.SameBut a s.heap s'.heap ∧ (a = X.env.locals ∨ X.env.cells.lookup x = some a)) → Q () s') (hf : X.fn x = true ∨ X.env.scope.names.lookup x = some .local := by first | exact .inl rfl | exact .inr rfl | assumption) : wpAny M A (storeName X.env x u) Q E s := by
  obtain ⟨m, hn, hl⟩ := id I.loc
  have hcls : (X.env.scope.kind == .class || (X.env.scope.kind == .module && X.env.locals != X.env.globals)) = false := by rw [I.ok.kind]; rfl
  have hiσ : i < σ.length := by rw [I.len]; exact (List.getElem?_eq_some_iff.mp hi).1
  have cne := I.cne
  have tracked : ∀ {a : Addr} {h' : Heap}, (∃ o, s.heap.get? a = some o ∧ H a = none) → Heap.SameBut a s.heap h' → HOk X.prog X.w H h' := fun {a h'} ha hs b ob e => by
    obtain ⟨_, _, hfree⟩ := ha
    refine (I.hok b ob e).stay (fun c w' hc q => (hs.2 c ?_).trans q) (fun _ q => q) fun _ _ q => q
    rintro rfl
    rcases hc with rfl | hc
    · rw [hfree] at e; cases e
    · rw [hfree] at hc; cases hc
  rcases hx with hk | hk
  · refine wpAny_storeName_local hk hn (fun h' hn' hs => ?_) hcls
    obtain ⟨oL, _, _, hoL, _⟩ := id hn
    refine h _ ⟨I.ok, I.os, I.bare, ⟨fun b o e n hb hx => ?_, fun b o e n hb hx => ?_, I.base.free, fun b o e hx => ?_, I.base.tups, I.base.frzs, I.base.tbls⟩, ⟨_, hn', fun j y v' e1 e2 e3 => ?_⟩, fun y c e => ?_, I.free, I.freeC, fun p hp => ?_, tracked ⟨oL, hoL, I.free⟩ hs, by simpa using I.len⟩ ⟨_, hs, .inl rfl⟩
    · exact (hs.2 b (Nat.ne_of_lt (Nat.lt_of_lt_of_le (Heap.lt_size e) I.ok.above))).trans (I.base.keep b o e n hb hx)
    · obtain ⟨sl, e1⟩ := I.base.slot b o e n hb hx
      exact ⟨sl, (hs.2 b (Nat.ne_of_lt (Nat.lt_of_lt_of_le (Heap.lt_size e) I.ok.above))).trans e1⟩
    · obtain ⟨o', e1⟩ := I.base.there b o e hx
      exact ⟨o', (hs.2 b (Nat.ne_of_lt (Nat.lt_of_lt_of_le (Heap.lt_size e) I.ok.above))).trans e1⟩
    · by_cases hj : j = i
      · subst hj
        rw [hi] at e1; cases e1
        rw [List.getElem?_set_self hiσ] at e2
        cases e2
        exact ⟨u, r, .inl ⟨hk, by simp⟩⟩
      · rw [List.getElem?_set_ne (Ne.symm hj)] at e2
        obtain ⟨u', r', q⟩ := hl j y v' e1 e2 e3
        refine ⟨u', r', ?_⟩
        rcases q with ⟨k, e⟩ | ⟨k, c, e, z⟩
        · refine .inl ⟨k, ?_⟩
          have : y ≠ x := fun e => hj (nodup_ix hN e1 (e ▸ hi))
          simp [this, e]
        · exact .inr ⟨k, c, e, z.sameBut hs (cne y c e)⟩
    · obtain ⟨w', z⟩ := I.cell y c e
      exact ⟨w', z.sameBut hs (cne y c e)⟩
    · obtain ⟨e, n, ne, nf, d⟩ := I.pin p hp
      exact ⟨(hs.2 p.1 ne).trans e, n, ne, nf, d⟩
  · have hfn : X.fn x = true := by
      rcases hf with z | z
      · exact z
      · rw [z] at hk; cases hk
    obtain ⟨c, hc⟩ := I.ok.has x (.inl hk)
    obtain ⟨w', z⟩ := I.cell x c hc
    refine wpAny_storeName_cell I.ok.kind hk hc z (fun h' hc' hs => ?_)
    obtain ⟨oc, hoc, hocd⟩ := id z
    refine h { s with heap := h' } ⟨I.ok, I.os, I.bare, ⟨fun b o e n hb hx => ?_, fun b o e n hb hx => ?_, I.base.free, fun b o e hx => ?_, I.base.tups, I.base.frzs, I.base.tbls⟩, ⟨m, hn.sameBut hs (Ne.symm (cne x c hc)), fun j y v' e1 e2 e3 => ?_⟩, fun y c' e => ?_, I.free, I.freeC, fun p hp => ?_, tracked ⟨oc, hoc, I.freeC x c hc⟩ hs, by simpa using I.len⟩ ⟨c, hs, .inr hc⟩
    · exact (hs.2 b (Nat.ne_of_lt (Nat.lt_of_lt_of_le (Heap.lt_size e) (I.ok.cab x c hfn hc)))).trans (I.base.keep b o e n hb hx)
    · obtain ⟨sl, e1⟩ := I.base.slot b o e n hb hx
      exact ⟨sl, (hs.2 b (Nat.ne_of_lt (Nat.lt_of_lt_of_le (Heap.lt_size e) (I.ok.cab x c hfn hc)))).trans e1⟩
    · obtain ⟨o', e1⟩ := I.base.there b o e hx
      exact ⟨o', (hs.2 b (Nat.ne_of_lt (Nat.lt_of_lt_of_le (Heap.lt_size e) (I.ok.cab x c hfn hc)))).trans e1⟩
    · by_cases hj : j = i
      · subst hj
        rw [hi] at e1; cases e1
        rw [List.getElem?_set_self hiσ] at e2
        cases e2
        exact ⟨u, r, .inr ⟨.inl hk, c, hc, hc'⟩⟩
      · rw [List.getElem?_set_ne (Ne.symm hj)] at e2
        obtain ⟨u', r', q⟩ := hl j y v' e1 e2 e3
        refine ⟨u', r', ?_⟩
        rcases q with q | ⟨k, c', e, z'⟩
        · exact .inl q
        · refine .inr ⟨k, c', e, z'.sameBut hs ?_⟩
          rintro rfl
          exact hj (nodup_ix hN e1 (I.ok.inj _ _ _ e hc ▸ hi))
    · by_cases hcc : c' = c
      · subst hcc; exact ⟨_, hc'⟩
      · obtain ⟨w2, z2⟩ := I.cell y c' e
        exact ⟨w2, z2.sameBut hs hcc⟩
    · obtain ⟨e, n, ne, nf, d⟩ := I.pin p hp
      refine ⟨(hs.2 p.1 ?_).trans e, n, ne, nf, d⟩
      intro q
      rw [q, hoc] at e
      have q' : oc = p.2 := Option.some.inj e
      exact d w' (by rw [← q']; exact hocd)
theorem store_ok {M : Model} {A : Around} {E : Value → Shared → Prop} {i : Nat} {x : Str} {v : V} {u : Value} {Q : Unit → Shared → Prop} (I : Inv X pins σ H s) (hN : X.N.Nodup) (hi : X.N[i]? = some x) (hx : Loc X.env.scope x) (r : RelV v u)
    (h : ∀ s', Inv X pins (σ.set i (some v)) H s' → Q () s') (hf : X.fn x = true ∨ X.env.scope.names.lookup x = some .local := by first | exact .inl rfl | exact .inr rfl | assumption) : wpAny M A (storeName X.env x u) Q E s :=
  store_ok2 I hN hi hx r (fun s' I' _ => h s' I') hf
theorem Inv.call' {s' : Shared} {ch : List Addr} (I : Inv X pins σ H s) (ho : s'.os = s.os) (u : Un (frs X.stack) ch H H' s.heap s'.heap) (hok : HOk X.prog X.w H' s'.heap) (hg : AllBare s'.gens)
    (hch : ∀ b ∈ ch, (b ∈ X.ex ∨ X.s_0.heap.objs.size ≤ b) ∧ b ≠ X.env.locals ∧ (∀ x c, X.env.cells.lookup x = some c → c ≠ b) ∧ ∀ p ∈ X.pn ++ pins, p.1 ≠ b) : Inv X pins σ H' s' := by
  obtain ⟨h', g', d', t', o'⟩ := s'
  have e : o' = s.os := ho
  subst e
  exact I.call (g' := g') (t' := t') (d' := d') u hok hg hch
end
abbrev XK := Value → Option Addr → Hp → Prop
abbrev St := List (Option V)
abbrev VK := V → Hp → Prop
abbrev TE := St → Hp → VK → Prop
abbrev TT := St → Hp → (Bool → Hp → Prop) → Prop
abbrev TA := St → Hp → (List V → Hp → Prop) → Prop
structure Ends where
  nx : St → Hp → Prop
  rt : VK
  bk : St → Hp → Prop := fun _ _ => False
  ct : St → Hp → Prop := fun _ _ => False
abbrev TS := Ends → St → Hp → Prop
def EP (X : Cx) (pins : List (Addr × Obj)) (σ : St) (Q : VK) (u : Value) (s' : Shared) : Prop := ∃ v H', Inv X pins σ H' s' ∧ RelV v u ∧ Q v H'
def TP (X : Cx) (pins : List (Addr × Obj)) (σ : St) (Q : Bool → Hp → Prop) (b : Bool) (s' : Shared) : Prop := ∃ H', Inv X pins σ H' s' ∧ Q b H'
def AP (X : Cx) (pins : List (Addr × Obj)) (σ : St) (Q : List V → Hp → Prop) (us : List Value) (s' : Shared) : Prop := ∃ vs H', Inv X pins σ H' s' ∧ Vals vs us ∧ Q vs H'
def SP (X : Cx) (pins : List (Addr × Obj)) (D : Ends) (f : Flow) (s' : Shared) : Prop :=
  match f with
  | .next => ∃ σ' H', Inv X pins σ' H' s' ∧ D.nx σ' H'
  | .brk => ∃ σ' H', Inv X pins σ' H' s' ∧ D.bk σ' H'
  | .cont => ∃ σ' H', Inv X pins σ' H' s' ∧ D.ct σ' H'
  | .ret u => ∃ v σ' H', Inv X pins σ' H' s' ∧ RelV v u ∧ D.rt v H'
def PE (X : Cx) (e : Expr) (t : TE) : Prop :=
  ∀ (pins : List (Addr × Obj)) (s : Shared) (σ : St) (H : Hp) (Q : VK), Inv X pins σ H s → t σ H Q → wpAny (model X.prog X.w) X.A (eval e X.env) (EP X pins σ Q) X.xe s
def PT (X : Cx) (e : Expr) (t : TT) : Prop :=
  ∀ (pins : List (Addr × Obj)) (s : Shared) (σ : St) (H : Hp) (Q : Bool → Hp → Prop), Inv X pins σ H s → t σ H Q → wpAny (model X.prog X.w) X.A (isTrue e X.env (eval e X.env)) (TP X pins σ Q) X.xe s
def PW (X : Cx) (e : Expr) (t : TT) : Prop :=
  ∀ (whole : Sem Value) (pins : List (Addr × Obj)) (s : Shared) (σ : St) (H : Hp) (Q : Bool → Hp → Prop), Inv X pins σ H s → t σ H Q → wpAny (model X.prog X.w) X.A (isTrue e X.env whole) (TP X pins σ Q) X.xe s
theorem PW.pt {X : Cx} {e : Expr} {t : TT} (h : PW X e t) : PT X e t := h _
def PA (X : Cx) (es : List Expr) (t : TA) : Prop :=
  ∀ (pos : Pos) (pins : List (Addr × Obj)) (s : Shared) (σ : St) (H : Hp) (Q : List V → Hp → Prop), Inv X pins σ H s → t σ H Q → wpAny (model X.prog X.w) X.A (spliced (backTo pos (starEach es X.env))) (AP X pins σ Q) X.xe s
def PS (X : Cx) (st : Stmt) (t : TS) : Prop :=
  ∀ (pins : List (Addr × Obj)) (s : Shared) (σ : St) (H : Hp) (D : Ends), Inv X pins σ H s → t D σ H → wpAny (model X.prog X.w) X.A (exec st X.env) (SP X pins D) X.xe s
def PSs (X : Cx) (st : List Stmt) (t : TS) : Prop :=
  ∀ (pins : List (Addr × Obj)) (s : Shared) (σ : St) (H : Hp) (D : Ends), Inv X pins σ H s → t D σ H → wpAny (model X.prog X.w) X.A (execs st X.env) (SP X pins D) X.xe s
theorem thn {α : Type} {t : Sem α} {Q Q' : α → Shared → Prop} {M : Model} {A : Around} {E : Value → Shared → Prop} {s : Shared} (h : wpAny M A t Q E s) (hQ : ∀ a s, Q a s → Q' a s) : wpAny M A t Q' E s := wpAny_mono h hQ fun _ _ x => x
end L2
namespace L2
open PySem PySem.Spec PyProof.Rows
section
variable {X : Cx}
def tVar (i : Nat) : TE := fun σ H Q => ∃ v, σ[i]? = some (some v) ∧ Q v H
def tC (v : V) : TE := fun _ H Q => Q v H
theorem pe_var {i : Nat} {x : Str} {pos : Pos} (hN : X.N[i]? = some x) (hv : Vis X.env.scope x) (hd : (x == ("__debug__" : Str)) = false := by decide) (hcd : (x == ("__classdict__" : Str)) = false := by decide) : PE X (.Name x pos) (tVar i) := by
  intro pins s σ H Q I h
  obtain ⟨v, e, h⟩ := h
  obtain ⟨m, hn, hl⟩ := I.loc
  obtain ⟨u, r, l⟩ := hl i x v hN e hv
  have fin : EP X pins σ Q u s := ⟨v, H, I, r, h⟩
  rcases l with ⟨hk, hm⟩ | ⟨hk, c, hc, hcell⟩
  · exact wpAny_Name (wpAny_loadName_local I.ok.kind hk hn hm fin) hd
  · rcases hk with hk | hk
    · exact wpAny_Name (wpAny_loadName_cell I.ok.kind hk hc hcell fin) hd
    · exact wpAny_Name (wpAny_loadName_free I.ok.kind hk hc hcell fin hcd) hd
theorem pe_int {i j pos} : PE X (.Constant (.int i) j pos) (tC (.int i)) := fun _ _ _ H _ I h => wpAny_Constant_int ⟨.int i, H, I.tok _, ⟨_, rfl⟩, h⟩
theorem pe_bl {b j pos} : PE X (.Constant (.bool b) j pos) (tC (.bl b)) := fun _ _ _ H _ I h => Constant_bool ⟨.bl b, H, I, rfl, h⟩
theorem pe_non {j pos} : PE X (.Constant .none j pos) (tC .non) := fun _ _ _ H _ I h => Constant_none ⟨.non, H, I, rfl, h⟩
theorem pe_str {x j pos} : PE X (.Constant (.str x) j pos) (tC (.str x)) := fun _ _ _ H _ I h => Calls.Constant_str ⟨.str x, H, I.tok _, ⟨_, rfl⟩, h⟩
def Gl (X : Cx) (x : Str) : Prop := X.env.kindOf x = some .globalImplicit
theorem ld_glob {E : Value → Shared → Prop} {pins : List (Addr × Obj)} {s : Shared} {σ : St} {H : Hp} {x : Str} {u : Value} {pos : Pos} {Q : Value → Shared → Prop} (I : Inv X pins σ H s) (hg : Gl X x) (hm : X.mg x = some u) (h : Q u s)
    (hd : (x == ("__debug__" : Str)) = false := by decide) : wpAny (model X.prog X.w) X.A (eval (.Name x pos) X.env) Q E s :=
  Calls.Name_function_global I.ok.kind hg (Calls.loadGlobal_global (by rw [I.ok.glob]; exact I.mod.glob.keeps I.bk) hm h) hd
theorem ld_blt {E : Value → Shared → Prop} {pins : List (Addr × Obj)} {s : Shared} {σ : St} {H : Hp} {x : Str} {u : Value} {pos : Pos} {Q : Value → Shared → Prop} (I : Inv X pins σ H s) (hg : Gl X x) (hm : X.mg x = none) (hv : bootBuiltins x = some u) (h : Q u s)
    (hn : x ≠ "__name__" := by decide) (hd : (x == ("__debug__" : Str)) = false := by decide) : wpAny (model X.prog X.w) X.A (eval (.Name x pos) X.env) Q E s := by
  obtain ⟨mb, h1, h2⟩ := I.mod.blt
  exact Calls.Name_function_global I.ok.kind hg (Calls.loadGlobal_builtin (by rw [I.ok.glob]; exact I.mod.glob.keeps I.bk) hm (by rw [I.ok.blt]; exact h1.keeps I.bk) ((h2 x hn).trans hv) h) hd
theorem pe_glob {x : Str} {v : V} {u : Value} {pos : Pos} (hg : Gl X x) (hm : X.mg x = some u) (r : RelV v u) (hd : (x == ("__debug__" : Str)) = false := by decide) : PE X (.Name x pos) (tC v) :=
  fun _ _ _ H _ I h => ld_glob I hg hm ⟨v, H, I, r, h⟩ hd
theorem pe_bltn {x : Str} {v : V} {u : Value} {pos : Pos} (hg : Gl X x) (hm : X.mg x = none) (hv : bootBuiltins x = some u) (r : RelV v u) (hn : x ≠ "__name__" := by decide) (hd : (x == ("__debug__" : Str)) = false := by decide) : PE X (.Name x pos) (tC v) :=
  fun _ _ _ H _ I h => ld_blt I hg hm hv ⟨v, H, I, r, h⟩ hn hd
variable {a b : Expr} {ta tb : TE} {pos : Pos}
def tB (t : TE) : TT := fun σ H Q => t σ H fun x H1 => ∃ c, x = .bl c ∧ Q c H1
theorem pt_val {e : Expr} {t : TE} (h : PE X e t) (he : ∀ whole, isTrue e X.env whole = (do let v ← whole; standAt e.pos; holding [v] (truthy v)) := by intro _; rfl) : PT X e (tB t) := by
  intro pins s σ H Q I hw
  refine isTrue_plain (thn (h pins s σ H _ I hw) fun v s1 ⟨x, H1, I1, r1, q1⟩ => ?_) (he _)
  obtain ⟨d, rfl, q⟩ := q1
  cases r1
  exact wpAny_truthy_bool ⟨H1, I1, q⟩
variable {tA tB' : TT} {rest : List Expr}
def tAnd (t u : TT) : TT := fun σ H Q => t σ H fun c H1 => if c = true then u σ H1 Q else Q false H1
def tOr (t u : TT) : TT := fun σ H Q => t σ H fun c H1 => if c = true then Q true H1 else u σ H1 Q
def tNot (t : TT) : TT := fun σ H Q => t σ H fun c H1 => Q (!c) H1
theorem pw_and1 (ha : PT X a tA) : PW X (.BoolOp .And [a] pos) tA := by
  intro wh pins s σ H Q I h
  refine isTrue_and (thn (ha pins s σ H Q I h) fun c s1 e => ?_)
  cases c with
  | true => exact isTrue_and_nil e
  | false => exact e
theorem pw_or1 (ha : PT X a tA) : PW X (.BoolOp .Or [a] pos) tA := by
  intro wh pins s σ H Q I h
  refine isTrue_or (thn (ha pins s σ H Q I h) fun c s1 e => ?_)
  cases c with
  | false => exact isTrue_or_nil e
  | true => exact e
theorem pw_and (ha : PT X a tA) (hb : PW X (.BoolOp .And (b :: rest) pos) tB') : PW X (.BoolOp .And (a :: b :: rest) pos) (tAnd tA tB') := by
  intro wh pins s σ H Q I h
  refine isTrue_and (thn (ha pins s σ H _ I h) fun c s1 ⟨H1, I1, q1⟩ => ?_)
  cases c with
  | true => exact hb wh pins s1 σ H1 Q I1 q1
  | false => exact ⟨H1, I1, q1⟩
theorem pw_or (ha : PT X a tA) (hb : PW X (.BoolOp .Or (b :: rest) pos) tB') : PW X (.BoolOp .Or (a :: b :: rest) pos) (tOr tA tB') := by
  intro wh pins s σ H Q I h
  refine isTrue_or (thn (ha pins s σ H _ I h) fun c s1 ⟨H1, I1, q1⟩ => ?_)
  cases c with
  | true => exact ⟨H1, I1, q1⟩
  | false => exact hb wh pins s1 σ H1 Q I1 q1
theorem pt_not (ha : PT X a tA) : PT X (.UnaryOp .Not a pos) (tNot tA) := by
  intro pins s σ H Q I h
  exact isTrue_not (ha pins s σ H (fun c H1 => Q (!c) H1) I h)
def tAndV (ta tb : TE) : TE := fun σ H Q => ta σ H fun x H1 => ∃ c, x = .bl c ∧ if c = true then tb σ H1 Q else Q (.bl false) H1
def tOrV (ta tb : TE) : TE := fun σ H Q => ta σ H fun x H1 => ∃ c, x = .bl c ∧ if c = true then Q (.bl true) H1 else tb σ H1 Q
def tNotV (ta : TE) : TE := fun σ H Q => ta σ H fun x H1 => ∃ c, x = .bl c ∧ Q (.bl (!c)) H1
theorem pe_one {op} {t : TE} (h : PE X a t) : PE X (.BoolOp op [a] pos) t := fun pins s σ H Q I hw => BoolOp_one (h pins s σ H Q I hw)
theorem pe_and (ha : PE X a ta) (hb : PE X (.BoolOp .And (b :: rest) pos) tb) : PE X (.BoolOp .And (a :: b :: rest) pos) (tAndV ta tb) := by
  intro pins s σ H Q I h
  refine BoolOp_and (thn (ha pins s σ H _ I h) fun v s1 ⟨x, H1, I1, r1, q1⟩ => ?_)
  obtain ⟨c, rfl, q1⟩ := q1
  cases r1
  refine wpAny_truthy_bool ?_
  cases c with
  | true => exact hb pins s1 σ H1 Q I1 q1
  | false => exact ⟨.bl false, H1, I1, rfl, q1⟩
theorem pe_or (ha : PE X a ta) (hb : PE X (.BoolOp .Or (b :: rest) pos) tb) : PE X (.BoolOp .Or (a :: b :: rest) pos) (tOrV ta tb) := by
  intro pins s σ H Q I h
  refine BoolOp_or (thn (ha pins s σ H _ I h) fun v s1 ⟨x, H1, I1, r1, q1⟩ => ?_)
  obtain ⟨c, rfl, q1⟩ := q1
  cases r1
  refine wpAny_truthy_bool ?_
  cases c with
  | false => exact hb pins s1 σ H1 Q I1 q1
  | true => exact ⟨.bl true, H1, I1, rfl, q1⟩
theorem pe_not (ha : PE X a ta) : PE X (.UnaryOp .Not a pos) (tNotV ta) := by
  intro pins s σ H Q I h
  refine UnaryOp_ (thn (ha pins s σ H _ I h) fun v s1 ⟨x, H1, I1, r1, q1⟩ => ?_)
  obtain ⟨c, rfl, q1⟩ := q1
  cases r1
  exact not_of (wpAny_truthy_bool ⟨.bl (!c), H1, I1, rfl, q1⟩)
end
end L2
namespace L2
open PySem PySem.Spec PyProof.Rows
def SqL (K : PySem.W.Frag) (H : Hp) (a : Addr) (xs : List V) : Prop :=
  Rd H a (.lst xs) ∨
    ∃ (o : Obj) (its : Array Value) (n : Nat), K.lookup a = some o ∧ o.cls = .type "list" ∧ o.dict = none ∧ o.data = .seq its n ∧ its.size ≤ sizeLine ∧ Vals xs its.toList
def SqT (K : PySem.W.Frag) (H : Hp) (a : Addr) (xs : List V) : Prop :=
  Rd H a (.tup xs) ∨
    ∃ (o : Obj) (its : Array Value) (n : Nat), K.lookup a = some o ∧ o.cls = .type "tuple" ∧ o.dict = none ∧ o.data = .seq its n ∧ its.size ≤ sizeLine ∧ Vals xs its.toList
def absV : Value → Option V
  | .none => some .non
  | .bool b => some (.bl b)
  | .int i _ => some (.int i)
  | .str x _ => some (.str x)
  | .bytes b _ => some (.byt b)
  | .float b _ => some (.flt b)
  | .ref a => some (.ref a)
  | .type n => some (.ty n)
  | _ => none
theorem RelV.abs {x : V} {u : Value} (r : RelV x u) : absV u = some x := by
  cases x with
  | non => cases r; rfl
  | bl _ => cases r; rfl
  | int _ => obtain ⟨t, rfl⟩ := r; rfl
  | str _ => obtain ⟨t, rfl⟩ := r; rfl
  | byt _ => obtain ⟨t, rfl⟩ := r; rfl
  | flt _ => obtain ⟨t, rfl⟩ := r; rfl
  | ref _ => cases r; rfl
  | ty _ => cases r; rfl
theorem RelV.inj {x y : V} {u : Value} (r : RelV x u) (q : RelV y u) : x = y := Option.some.inj (r.abs.symm.trans q.abs)
theorem Vals.inj : ∀ {xs ys : List V} {us : List Value}, Vals xs us → Vals ys us → xs = ys
  | _, _, _, .nil, .nil => rfl
  | _, _, _, .cons r t, .cons r' t' => by rw [r.inj r', Vals.inj t t']
section
variable {X : Cx} {pins : List (Addr × Obj)} {σ : St} {H : Hp} {s : Shared} {a : Addr} {xs ys : List V}
theorem SqL.of {K : PySem.W.Frag} (h : H a = some (.lst xs)) : SqL K H a xs := .inl (.inl h)
theorem SqT.of {K : PySem.W.Frag} (h : H a = some (.tup xs)) : SqT K H a xs := .inl (.inl h)
theorem Inv.list (I : Inv X pins σ H s) (h : SqL X.K H a xs) : ∃ its : List Value, Vals xs its ∧ PlainL s.heap a its.toArray ∧ xs.length ≤ sizeLine := by
  rcases h with h | ⟨o, its, n, hk, hc, hd, hs, hz, r⟩
  · obtain ⟨z, its, n, r, e⟩ := h.ok I.hok
    exact ⟨its, r, ⟨_, n, e, rfl, rfl, rfl⟩, z⟩
  · refine ⟨its.toList, r, ⟨o, n, I.kIn a o hk, hc, hd, by simpa using hs⟩, ?_⟩
    have e := r.length
    simp only [Array.length_toList] at e
    omega
theorem Inv.tuple (I : Inv X pins σ H s) (h : SqT X.K H a xs) : ∃ its : List Value, Vals xs its ∧ IsTup s.heap a its.toArray ∧ xs.length ≤ sizeLine := by
  rcases h with h | ⟨o, its, n, hk, hc, _, hs, hz, r⟩
  · obtain ⟨z, its, r, p, _⟩ := h.ok I.hok
    exact ⟨its, r, p, z⟩
  · refine ⟨its.toList, r, ⟨o, I.kIn a o hk, hc, n, by simpa using hs⟩, ?_⟩
    have e := r.length
    simp only [Array.length_toList] at e
    omega
theorem Inv.list_inj (I : Inv X pins σ H s) (h : SqL X.K H a xs) (h' : SqL X.K H a ys) : xs = ys := by
  obtain ⟨its, r, ⟨o, n, e, _, _, d⟩, _⟩ := I.list h
  obtain ⟨its', r', ⟨o', n', e', _, _, d'⟩, _⟩ := I.list h'
  rw [e] at e'; cases e'
  rw [d] at d'
  injection d' with d1 _
  have : its = its' := by simpa using congrArg Array.toList d1
  subst this
  exact r.inj r'
theorem Inv.tuple_inj (I : Inv X pins σ H s) (h : SqT X.K H a xs) (h' : SqT X.K H a ys) : xs = ys := by
  obtain ⟨its, r, ⟨o, e, _, n, d⟩, _⟩ := I.tuple h
  obtain ⟨its', r', ⟨o', e', _, n', d'⟩, _⟩ := I.tuple h'
  rw [e] at e'; cases e'
  rw [d] at d'
  injection d' with d1 _
  have : its = its' := by simpa using congrArg Array.toList d1
  subst this
  exact r.inj r'
end
abbrev Cx.wish (X : Cx) (E : Value → Shared → Prop) : Cx := { X with xe := E }
abbrev Cx.nox (X : Cx) : Cx := X.wish fun _ _ => False
theorem Cx.Ok.wish {X : Cx} (ok : X.Ok) (E : Value → Shared → Prop) : (X.wish E).Ok :=
  ⟨ok.mod, ok.kind, ok.glob, ok.blt, ok.above, ok.inj, ok.has, ok.cab, ok.hd, ok.frames, ok.stk, ok.exf, ok.bs, ok.bsz, ok.noex, ok.exfs, ok.funs, ok.frf⟩
theorem Cx.Ok.unwish {X : Cx} {E : Value → Shared → Prop} (ok : (X.wish E).Ok) : X.Ok :=
  ⟨ok.mod, ok.kind, ok.glob, ok.blt, ok.above, ok.inj, ok.has, ok.cab, ok.hd, ok.frames, ok.stk, ok.exf, ok.bs, ok.bsz, ok.noex, ok.exfs, ok.funs, ok.frf⟩
section
variable {X : Cx} {pins : List (Addr × Obj)} {σ : St} {H : Hp} {s : Shared} {E : Value → Shared → Prop}
theorem Inv.wish (I : Inv X pins σ H s) (E : Value → Shared → Prop) : Inv (X.wish E) pins σ H s := ⟨I.ok.wish E, I.os, I.bare, I.base, I.loc, I.cell, I.free, I.freeC, I.pin, I.hok, I.len⟩
theorem Inv.unwish (I : Inv (X.wish E) pins σ H s) : Inv X pins σ H s := ⟨I.ok.unwish, I.os, I.bare, I.base, I.loc, I.cell, I.free, I.freeC, I.pin, I.hok, I.len⟩
theorem SP.unwish {D : Ends} {f : Flow} {s' : Shared} (h : SP (X.wish E) pins D f s') : SP X pins D f s' := by
  cases f with
  | next => obtain ⟨σ', H', I, q⟩ := h; exact ⟨σ', H', I.unwish, q⟩
  | brk => obtain ⟨σ', H', I, q⟩ := h; exact ⟨σ', H', I.unwish, q⟩
  | cont => obtain ⟨σ', H', I, q⟩ := h; exact ⟨σ', H', I.unwish, q⟩
  | ret u => obtain ⟨v, σ', H', I, r, q⟩ := h; exact ⟨v, σ', H', I.unwish, r, q⟩
theorem PE.nox {e : Expr} {t : TE} (h : PE X.nox e t) : PE X e t := fun pins s σ H Q I hw =>
  wpAny_mono (h pins s σ H Q (I.wish _) hw) (fun _ _ ⟨v, H', I', r, q⟩ => ⟨v, H', I'.unwish, r, q⟩) fun _ _ z => False.elim z
theorem PT.nox {e : Expr} {t : TT} (h : PT X.nox e t) : PT X e t := fun pins s σ H Q I hw =>
  wpAny_mono (h pins s σ H Q (I.wish _) hw) (fun _ _ ⟨H', I', q⟩ => ⟨H', I'.unwish, q⟩) fun _ _ z => False.elim z
theorem PSs.nox {st : List Stmt} {t : TS} (h : PSs X.nox st t) : PSs X st t := fun pins s σ H D I hw =>
  wpAny_mono (h pins s σ H D (I.wish _) hw) (fun _ _ q => q.unwish) fun _ _ z => False.elim z
end
section
variable {X : Cx} {st : Stmt} {rest : List Stmt} {t u : TS} {e : Expr} {te : TE} {pos : Pos}
def tNext : TS := fun D σ H => D.nx σ H
def tSeq (t u : TS) : TS := fun D σ H => t { D with nx := u D } σ H
theorem pss_nil : PSs X [] tNext := fun _ _ σ H _ I h => wpAny_execs_nil ⟨σ, H, I, h⟩
theorem pss_cons (h1 : PS X st t) (h2 : PSs X rest u) : PSs X (st :: rest) (tSeq t u) := by
  intro pins s σ H D I h
  refine wpAny_execs_cons (thn (h1 pins s σ H { D with nx := u D } I h) fun f s1 q => ?_)
  cases f with
  | next =>
    obtain ⟨σ', H', I', q⟩ := q
    exact h2 pins s1 σ' H' D I' q
  | ret v => exact q
  | brk => exact q
  | cont => exact q
theorem pss_one (h1 : PS X st t) : PSs X [st] t := by
  intro pins s σ H D I h
  refine wpAny_execs_cons (thn (h1 pins s σ H D I h) fun f s1 q => ?_)
  cases f with
  | next => exact wpAny_execs_nil q
  | ret v => exact q
  | brk => exact q
  | cont => exact q
def tRet (te : TE) : TS := fun D σ H => te σ H D.rt
theorem ps_ret (he : PE X e te) : PS X (.Return (some e) pos) (tRet te) := by
  intro pins s σ H D I h
  exact wpAny_Return_some (thn (he pins s σ H _ I h) fun v s1 ⟨x, H1, I1, r1, q1⟩ => ⟨x, σ, H1, I1, r1, q1⟩)
def tIfS (c : TT) (t u : TS) : TS := fun D σ H => c σ H fun b H1 => if b = true then t D σ H1 else u D σ H1
theorem ps_if {c : Expr} {a b : List Stmt} {tc : TT} (hc : PT X c tc) (ha : PSs X a t) (hb : PSs X b u) : PS X (.If c a b pos) (tIfS tc t u) := by
  intro pins s σ H D I h
  refine wpAny_If (thn (hc pins s σ H _ I h) fun d s1 ⟨H1, I1, q1⟩ => ?_)
  cases d with
  | true => exact ha pins s1 σ H1 D I1 q1
  | false => exact hb pins s1 σ H1 D I1 q1
end
abbrev TG := V → St → Hp → (St → Hp → Prop) → Prop
abbrev TGs := List V → St → Hp → (St → Hp → Prop) → Prop
def PG (X : Cx) (target : Expr) (t : TG) : Prop :=
  ∀ (pins : List (Addr × Obj)) (s : Shared) (σ : St) (H : Hp) (v : V) (u : Value) (Q : St → Hp → Prop), Inv X pins σ H s → RelV v u → t v σ H Q →
    wpAny (model X.prog X.w) X.A (assign target X.env u) (fun _ s' => ∃ σ' H', Inv X pins σ' H' s' ∧ Q σ' H') X.xe s
def PGs (X : Cx) (ts : List Expr) (t : TGs) : Prop :=
  ∀ (pins : List (Addr × Obj)) (s : Shared) (σ : St) (H : Hp) (vs : List V) (us : List Value) (Q : St → Hp → Prop), Inv X pins σ H s → Vals vs us → t vs σ H Q →
    wpAny (model X.prog X.w) X.A (assignInOrder ((assignEach ts X.env).map (·.2)) us) (fun _ s' => ∃ σ' H', Inv X pins σ' H' s' ∧ Q σ' H') X.xe s
abbrev TSet := V → V → V → Hp → (Hp → Prop) → Prop
def PSet (X : Cx) (t : TSet) : Prop :=
  ∀ (pins : List (Addr × Obj)) (s : Shared) (σ : St) (H : Hp) (o i v : V) (ov iv u : Value) (Q : Hp → Prop), Inv X pins σ H s → RelV o ov → RelV i iv → RelV v u → t o i v H Q →
    wpAny (model X.prog X.w) X.A (setItem ov iv u) (fun _ s' => ∃ H', Inv X pins σ H' s' ∧ Q H') X.xe s
section
variable {X : Cx} {pos : Pos}
def gName (i : Nat) : TG := fun v σ H Q => Q (σ.set i (some v)) H
theorem pg_name {i : Nat} {x : Str} (hN : X.N.Nodup) (hi : X.N[i]? = some x) (hx : Loc X.env.scope x) (hf : X.fn x = true ∨ X.env.scope.names.lookup x = some .local := by first | exact .inl rfl | exact .inr rfl | assumption) : PG X (.Name x pos) (gName i) := by
  intro pins s σ H v u Q I r h
  exact wpAny_assign_Name (store_ok I hN hi hx r (fun s' I' => ⟨_, H, I', h⟩) hf)
def gNil : TGs := fun vs σ H Q => vs = [] ∧ Q σ H
def gCons (t : TG) (u : TGs) : TGs := fun vs σ H Q => ∃ v r, vs = v :: r ∧ t v σ H fun σ' H' => u r σ' H' Q
theorem pgs_nil : PGs X [] gNil := by
  intro pins s σ H vs us Q I r h
  obtain ⟨e, h⟩ := h
  subst e
  cases r
  exact assignInOrder_nil ⟨σ, H, I, h⟩
theorem pgs_cons {e : Expr} {es : List Expr} {t : TG} {u : TGs} (h1 : PG X e t) (h2 : PGs X es u)
    (hs : (assignEach (e :: es) X.env).map (·.2) = assign e X.env :: (assignEach es X.env).map (·.2) := by rfl) : PGs X (e :: es) (gCons t u) := by
  intro pins s σ H vs us Q I r h
  obtain ⟨v, vr, e1, h⟩ := h
  subst e1
  cases r with
  | cons r rr =>
    rw [hs]
    refine assignInOrder_cons (thn (h1 pins s σ H _ _ _ I r h) fun _ s1 ⟨σ1, H1, I1, q1⟩ => ?_)
    exact h2 pins s1 σ1 H1 _ _ Q I1 rr q1
def gTup (K : PySem.W.Frag) (n : Nat) (t : TGs) : TG := fun v σ H Q => ∃ a xs, v = .ref a ∧ SqT K H a xs ∧ xs.length = n ∧ t xs σ H Q
theorem pg_tup {es : List Expr} {k : Nat} {t : TGs} {n : Nat} (hc : X.calm = true) (h : PGs X es t)
    (hn : (assignEach es X.env).length = n := by rfl) (hst : (assignEach es X.env).findIdx? (·.1) = none := by rfl) : PG X (.Tuple es k pos) (gTup X.K n t) := by
  intro pins s σ H v u Q I r hw
  obtain ⟨a, xs, e1, hq, hl, hw⟩ := hw
  subst e1
  cases r
  obtain ⟨its, rv, ht, hz⟩ := I.tuple hq
  refine assign_Tuple_tuple (I.ok.hd hc) ht (by simp [hn, ← hl, rv.length]) hst fun h' hx => ?_
  have I1 : Inv X pins σ H { s with heap := h' } := I.kept (t' := s.toks) fun b o e => hx b o (Nat.ne_of_lt (Heap.lt_size e)) e
  exact h pins _ σ H xs _ Q I1 (by simpa using rv) hw
def gSub (to ti : TE) (t : TSet) : TG := fun v σ H Q => to σ H fun o H1 => ti σ H1 fun i H2 => t o i v H2 fun H3 => Q σ H3
theorem pg_sub {o i : Expr} {to ti : TE} {t : TSet} (ho : PE X o to) (hi : PE X i ti) (hs : PSet X t)
    (ha : ∀ v, assign (.Subscript o i pos) X.env v = (do
      let ov ← holding [v] (eval o X.env)
      let iv ← holding [v, ov] (eval i X.env)
      standAt pos
      holding [v, ov, iv] (setItem ov iv v)
      release [v, ov, iv] []) := by intro _; rfl) : PG X (.Subscript o i pos) (gSub to ti t) := by
  intro pins s σ H v u Q I r h
  rw [ha]
  refine wpAny_bind (wpAny_holding (thn (ho pins s σ H _ I h) fun ov s1 ⟨x, H1, I1, r1, q1⟩ => ?_))
  refine wpAny_bind (wpAny_holding (thn (hi pins s1 σ H1 _ I1 q1) fun iv s2 ⟨y, H2, I2, r2, q2⟩ => ?_))
  refine wpAny_bind (wpAny_standAt (wpAny_bind (wpAny_holding (thn (hs pins s2 σ H2 x y v ov iv u _ I2 r1 r2 r q2) fun _ s3 ⟨H3, I3, q3⟩ => ?_))))
  exact wpAny_release ⟨σ, H3, I3, q3⟩
def tAsg (te : TE) (g : TG) : TS := fun D σ H => te σ H fun x H1 => g x σ H1 D.nx
theorem ps_asg {tg e : Expr} {te : TE} {g : TG} (he : PE X e te) (hg : PG X tg g) (hs : swapsWithSole [tg] e pos.line X.env = pure false := by rfl) (hw : swappedStores [tg] e X.env = pure none := by rfl)
    (h1 : (assignEach [tg] X.env).map (·.2) = [assign tg X.env] := by rfl) : PS X (.Assign [tg] e pos) (tAsg te g) := by
  intro pins s σ H D I h
  refine wpAny_Assign_stores (thn (he pins s σ H _ I h) fun v s1 ⟨x, H1, I1, r1, q1⟩ => ?_) hs hw
  rw [h1]
  exact thn (hg pins s1 σ H1 x v _ I1 r1 q1) fun _ s2 q => q
theorem ps_set {i : Nat} {x : Str} {e : Expr} {te : TE} {pos' : Pos} (hN : X.N.Nodup) (hi : X.N[i]? = some x) (hx : Loc X.env.scope x) (he : PE X e te) (hs : swapsWith e (some (.Name x pos')) pos.line X.env = pure false := by rfl) (hf : X.fn x = true ∨ X.env.scope.names.lookup x = some .local := by first | exact .inl rfl | exact .inr rfl | assumption) :
    PS X (.Assign [.Name x pos'] e pos) (tAsg te (gName i)) := by
  intro pins s σ H D I h
  refine wpAny_Assign_Name (thn (he pins s σ H _ I h) fun v s1 ⟨y, H1, I1, r1, q1⟩ => ?_) hs
  exact store_ok I1 hN hi hx r1 (fun s2 I2 => ⟨_, H1, I2, q1⟩) hf
def tPar (i j : Nat) (ta : TA) : TS := fun D σ H => ta σ H fun vs H1 => ∃ v w, vs = [v, w] ∧ D.nx ((σ.set i (some v)).set j (some w)) H1
theorem ps_par {i j : Nat} {x y : Str} {a b : Expr} {ta : TA} {px py pt : Pos} {kt k2 pt2} (hc : X.calm = true) (hN : X.N.Nodup) (hi : X.N[i]? = some x) (hj : X.N[j]? = some y) (hij : i ≠ j)
    (hx : X.env.scope.names.lookup x = some .local) (hy : X.env.scope.names.lookup y = some .local) (ha : PA X [a, b] ta)
    (hw : swappedStores [.Tuple [.Name x px, .Name y py] kt pt] (.Tuple [a, b] k2 pt2) X.env = pure (some [x, y]))
    (hs : swapsWithSole [.Tuple [.Name x px, .Name y py] kt pt] (.Tuple [a, b] k2 pt2) pos.line X.env = pure false := by rfl) :
    PS X (.Assign [.Tuple [.Name x px, .Name y py] kt pt] (.Tuple [a, b] k2 pt2) pos) (tPar i j ta) := by
  intro pins s σ H D I h
  rw [exec_Assign_arm]
  refine wpAny_bind (wpAny_standAt ?_)
  rw [hs]
  refine wpAny_bind (wpAny_pure ?_)
  rw [if_neg (by decide)]
  refine wpAny_bind (Tuple_ (thn (ha _ pins s σ H _ I h) fun us s1 ⟨vs, H1, I1, r1, q1⟩ => ?_))
  obtain ⟨v, w, e1, q1⟩ := q1
  subst e1
  obtain ⟨u1, u2, rfl, rv, rw'⟩ : ∃ u1 u2, us = [u1, u2] ∧ RelV v u1 ∧ RelV w u2 := by
    cases r1 with
    | cons p q =>
      cases q with
      | cons p' q' =>
        cases q'
        exact ⟨_, _, rfl, p, p'⟩
  refine wpAny_newObj_type ?_ (by show 2 ≤ sizeLine; decide)
  have I2 : Inv X pins σ H1 { s1 with heap := s1.heap.push { cls := .type "tuple", data := .seq [u1, u2].toArray } } := I1.kept (t' := s1.toks) fun b o e => Heap.get?_push_of_some _ e
  rw [hw]
  refine wpAny_bind (wpAny_pure ?_)
  show wpAny (model X.prog X.w) X.A (do rule "assign.swapped-stores"; let items ← unpackItems (.ref s1.heap.objs.size) 2 none; assignInOrder [fun v => bindName X.env y v, fun v => bindName X.env x v] items.reverse; pure Flow.next) _ _ _
  refine wpAny_bind (wpAny_rule (wpAny_bind (unpackItems_tuple (items := #[u1, u2]) (I.ok.hd hc) (IsTup.new s1.heap _) fun h' hx' => ?_)))
  have I3 := I2.kept (h' := h') (t' := s1.toks) fun b o e => hx' b o (Nat.ne_of_lt (Heap.lt_size e)) e
  show wpAny _ _ (assignInOrder [fun v => bindName X.env y v, fun v => bindName X.env x v] [u2, u1] >>= fun _ => pure Flow.next) _ _ _
  refine wpAny_bind (assignInOrder_cons (wpAny_bindName (store_ok I3 hN hj (.inl hy) rw' (fun s2 I4 => ?_) (.inr hy))))
  refine assignInOrder_cons (wpAny_bindName (store_ok I4 hN hi (.inl hx) rv (fun s3 I5 => assignInOrder_nil (wpAny_pure ?_)) (.inr hx)))
  rw [List.set_comm _ _ (Ne.symm hij)] at I5
  exact ⟨_, H1, I5, q1⟩
end
section
variable {X : Cx} {pos : Pos}
def tWhile (c : TT) (tb : TS) : TS := fun D σ H => ∃ W : Nat → St → Hp → Prop, (∃ m, W m σ H) ∧ ∀ m σ H, W m σ H →
  c σ H fun b H1 => if b = true then ∃ N : St → Hp → Prop, (∀ σ' H', N σ' H' → ∃ m', m' < m ∧ W m' σ' H') ∧ tb { D with nx := N, ct := N, bk := D.nx } σ H1 else D.nx σ H1
theorem ps_while {c : Expr} {body : List Stmt} {tc : TT} {tb : TS} (hp : PassesOwn (model X.prog X.w) X.A X.env X.xe) (hc : PT X c tc) (hb : PSs X body tb) : PS X (.While c body [] pos) (tWhile tc tb) := by
  intro pins s σ H D I h
  obtain ⟨W, ⟨m0, w0⟩, turn⟩ := h
  refine wpAny_While (codeAny_whileLoop (fun n s' => ∃ σ' H', Inv X pins σ' H' s' ∧ W n σ' H') ?_ m0 ⟨σ, H, I, w0⟩)
  rintro n s1 ⟨σ1, H1, I1, w1⟩
  refine wpAny_passesOwn hp (thn (hc pins s1 σ1 H1 _ I1 (turn n σ1 H1 w1)) fun b s2 ⟨H2, I2, q2⟩ => ?_)
  cases b with
  | true =>
    obtain ⟨N, hN, q2⟩ := q2
    rw [if_pos rfl]
    refine wpAny_passesOwn hp (thn (hb pins s2 σ1 H2 _ I2 q2) fun f s3 q3 => ?_)
    cases f with
    | next =>
      obtain ⟨σ3, H3, I3, n3⟩ := q3
      obtain ⟨m', hm, w3⟩ := hN σ3 H3 n3
      exact ⟨m', hm, σ3, H3, I3, w3⟩
    | cont =>
      obtain ⟨σ3, H3, I3, n3⟩ := q3
      obtain ⟨m', hm, w3⟩ := hN σ3 H3 n3
      exact ⟨m', hm, σ3, H3, I3, w3⟩
    | brk => exact q3
    | ret v => exact q3
  | false =>
    rw [if_neg Bool.false_ne_true]
    exact wpAny_execs_nil ⟨σ1, H2, I2, q2⟩
end
structure It where
  go : Nat → Hp → Prop
  yld : Nat → Hp → V → Hp → Prop
  stop : Nat → Hp → Prop
def FpOk (X : Cx) (pins : List (Addr × Obj)) (H : Hp) (b : Addr) : Prop :=
  H b = none ∧ b ≠ X.env.locals ∧ b ∉ X.fs ∧ (b ∈ X.ex ∨ X.s_0.heap.objs.size ≤ b) ∧ (∀ x c, X.env.cells.lookup x = some c → c ≠ b) ∧ ∀ p ∈ X.pn ++ pins, p.1 ≠ b
theorem Inv.fpOk {X : Cx} {pins : List (Addr × Obj)} {σ : St} {H H' : Hp} {s : Shared} {b : Addr} (I : Inv X pins σ H s) (hb : s.heap.objs.size ≤ b) (hn : H' b = none) : FpOk X pins H' b := by
  refine ⟨hn, Nat.ne_of_gt (Nat.lt_of_lt_of_le I.lt hb), I.nofs hb, .inr (Nat.le_trans I.sz hb), fun x c e z => ?_, fun p hp z => ?_⟩
  · obtain ⟨v, q⟩ := I.cell x c e
    exact absurd (Nat.lt_of_lt_of_le q.lt (by rw [z]; exact hb)) (Nat.lt_irrefl _)
  · exact absurd (Nat.lt_of_lt_of_le (Heap.lt_size (I.pin p hp).1) (by rw [z]; exact hb)) (Nat.lt_irrefl _)
structure Turn (P : Program) (w : World) (K : PySem.W.Frag) (tg : Expr) (J : It) (fp : List Addr) (it : Addr) (tn : Nat → Heap → Prop) : Prop where
  mem : it ∈ fp
  obj : ∀ i h, tn i h → ∀ b ∈ fp, ∃ o, h.get? b = some o ∧ ∀ v, o.data ≠ .cell v
  keep : ∀ i h h', tn i h → (∀ b ∈ fp, ∀ o, h.get? b = some o → h'.get? b = some o) → tn i h'
  item : ∀ (X : Cx), X.prog = P → X.w = w → X.K = K → X.calm = true → ∀ (i : Nat) (pins : List (Addr × Obj)) (s : Shared) (σ : St) (H : Hp) (E : Value → Shared → Prop), Inv X pins σ H s → (∀ b ∈ fp, FpOk X pins H b) → tn i s.heap → J.go i H →
    wpAny (model P w) X.A (pyNext (.ref it)) (fun r s1 => ∃ u, r = some u ∧
      wpAny (model P w) X.A (letOwnedTupleGo tg (.ref it) u) (fun _ s2 => ∃ x H', Inv X pins σ H' s2 ∧ RelV x u ∧ J.yld i H x H' ∧ tn (i + 1) s2.heap ∧ ∀ b ∈ fp, H' b = none) E s1) E s
  done : ∀ (X : Cx), X.prog = P → X.w = w → X.K = K → X.calm = true → ∀ (i : Nat) (pins : List (Addr × Obj)) (s : Shared) (σ : St) (H : Hp) (E : Value → Shared → Prop), Inv X pins σ H s → (∀ b ∈ fp, FpOk X pins H b) → tn i s.heap → J.stop i H →
    wpAny (model P w) X.A (pyNext (.ref it)) (fun r s1 => r = none ∧ Inv X pins σ H s1) E s
  self : ∀ (A : Around) (i : Nat) (s : Shared) (Q : Value → Shared → Prop) (E : Value → Shared → Prop), tn i s.heap → Q (.ref it) s → wpAny (model P w) A (pyIter (.ref it)) Q E s
abbrev TI := St → Hp → (It → Hp → Prop) → Prop
def PIE (X : Cx) (pins : List (Addr × Obj)) (σ : St) (tg : Expr) (R : It → Hp → Prop) (itv : Value) (s2 : Shared) : Prop :=
  ∃ (it : Addr) (fp : List Addr) (tn : Nat → Heap → Prop) (J : It) (H' : Hp), itv = .ref it ∧ Inv X pins σ H' s2 ∧ Turn X.prog X.w X.K tg J fp it tn ∧ tn 0 s2.heap ∧ (∀ b ∈ fp, FpOk X pins H' b) ∧ R J H'
def PI (X : Cx) (tg iter : Expr) (wi : TI) : Prop :=
  ∀ (pins : List (Addr × Obj)) (s : Shared) (σ : St) (H : Hp) (R : It → Hp → Prop), Inv X pins σ H s → wi σ H R →
    wpAny (model X.prog X.w) X.A (eval iter X.env) (fun v s1 => wpAny (model X.prog X.w) X.A (pyIter v) (PIE X pins σ tg R) X.xe s1) X.xe s
theorem go_of {M : Model} {A : Around} {E : Value → Shared → Prop} {s : Shared} {tg : Expr} {it : Addr} {u : Value} {o : Obj} {n : String} {vs : Array Value} {Q : Unit → Shared → Prop} (ho : s.heap.get? it = some o) (hc : o.cls = .type n) (hd : o.data = .fields vs)
    (hn : ["enumerate", "zip", "dict_itemiterator", "dict_reverseitemiterator", "odict_iterator", "itertools.zip_longest", "itertools.pairwise"].contains n = false) (hQ : Q () s) : wpAny M A (letOwnedTupleGo tg (.ref it) u) Q E s := by
  unfold letOwnedTupleGo
  cases tg <;> first
    | exact wpAny_pure hQ
    | (cases u <;> first
        | exact wpAny_pure hQ
        | (refine wpAny_bind (wpAny_load ho ?_)
           rw [hc, hd]
           show wpAny M A (if (["enumerate", "zip", "dict_itemiterator", "dict_reverseitemiterator", "odict_iterator", "itertools.zip_longest", "itertools.pairwise"].contains n && vs[0]? == some (rawInt _)) = true then _ else _) Q E s
           rw [if_neg (by intro h; rw [hn, Bool.false_and] at h; cases h)]
           exact wpAny_pure hQ))
def Itl (K : PySem.W.Frag) (a : Addr) : It :=
  ⟨fun i H => ∃ xs x, SqL K H a xs ∧ xs[i]? = some x, fun i H x H' => H' = H ∧ ∀ xs, SqL K H a xs → xs[i]? = some x, fun i H => ∃ xs, SqL K H a xs ∧ xs.length ≤ i⟩
def Itt (K : PySem.W.Frag) (a : Addr) : It :=
  ⟨fun i H => ∃ xs x, SqT K H a xs ∧ xs[i]? = some x, fun i H x H' => H' = H ∧ ∀ xs, SqT K H a xs → xs[i]? = some x, fun i H => ∃ xs, SqT K H a xs ∧ xs.length ≤ i⟩
def Itr (lo : Int) (n : Nat) : It := ⟨fun i _ => i < n, fun i H x H' => H' = H ∧ x = .int (lo + i), fun i _ => n ≤ i⟩
theorem turn_list {P : Program} {w : World} {K : PySem.W.Frag} {tg : Expr} (a it : Addr) : Turn P w K tg (Itl K a) [it] it (fun i h => h.IsListIter it a i) where
  mem := by simp
  obj := fun i h st b hb => by
    have e : b = it := by simpa using hb
    subst e
    obtain ⟨o, e, c, d⟩ := st
    exact ⟨o, e, fun v z => by rw [d] at z; cases z⟩
  keep := fun i h h' st k => st.at fun o e => k it (by simp) o e
  item := by
    intro X hP hw hK hc i pins s σ H E I hf st hg
    subst hP hw hK
    obtain ⟨xs, x, hq, hx⟩ := hg
    obtain ⟨its, rv, p, hz⟩ := I.list hq
    obtain ⟨u, hu, ru⟩ := rv.get hx
    obtain ⟨f0, f1, f2, f3, f4, f5⟩ := hf it (by simp)
    refine wpAny_pyNext_list_item st p.isList (x := u) (by simpa using hu) fun h' st' sb => ?_
    have I1 : Inv X pins σ H { s with heap := h' } := I.turned (t' := s.toks) (fun b o hb e => (sb.2 b hb).trans e) f0 f1 f3 f4 f5
    obtain ⟨o, e, c, d⟩ := id st'
    exact ⟨u, rfl, go_of (s := { s with heap := h' }) e c d (by decide) ⟨x, H, I1, ru, ⟨rfl, fun ys hy => by rw [I.list_inj hy hq]; exact hx⟩, st', fun b hb => (hf b hb).1⟩⟩
  done := by
    intro X hP hw hK hc i pins s σ H E I hf st hg
    subst hP hw hK
    obtain ⟨xs, hq, hx⟩ := hg
    obtain ⟨its, rv, p, hz⟩ := I.list hq
    obtain ⟨f0, f1, f2, f3, f4, f5⟩ := hf it (by simp)
    have hl := rv.length
    exact wpAny_pyNext_list_end (I.ok.hd hc) st p.isList (by simp; omega) fun h' eb => ⟨rfl, I.turned (t' := s.toks) (fun b o hb e => eb b o hb e) f0 f1 f3 f4 f5⟩
  self := fun _ _ _ _ _ st h => wpAny_pyIter_listiter st h
theorem turn_tuple {P : Program} {w : World} {K : PySem.W.Frag} {tg : Expr} (a it : Addr) : Turn P w K tg (Itt K a) [it] it (fun i h => h.IsTupleIter it a i) where
  mem := by simp
  obj := fun i h st b hb => by
    have e : b = it := by simpa using hb
    subst e
    obtain ⟨o, e, c, d⟩ := st
    exact ⟨o, e, fun v z => by rw [d] at z; cases z⟩
  keep := fun i h h' st k => st.at fun o e => k it (by simp) o e
  item := by
    intro X hP hw hK hc i pins s σ H E I hf st hg
    subst hP hw hK
    obtain ⟨xs, x, hq, hx⟩ := hg
    obtain ⟨its, rv, p, hz⟩ := I.tuple hq
    obtain ⟨u, hu, ru⟩ := rv.get hx
    obtain ⟨f0, f1, f2, f3, f4, f5⟩ := hf it (by simp)
    refine wpAny_pyNext_tuple_item st (show s.heap.IsTuple a its.toArray from p) (x := u) (by simpa using hu) fun h' st' sb => ?_
    have I1 : Inv X pins σ H { s with heap := h' } := I.turned (t' := s.toks) (fun b o hb e => (sb.2 b hb).trans e) f0 f1 f3 f4 f5
    obtain ⟨o, e, c, d⟩ := id st'
    exact ⟨u, rfl, go_of (s := { s with heap := h' }) e c d (by decide) ⟨x, H, I1, ru, ⟨rfl, fun ys hy => by rw [I.tuple_inj hy hq]; exact hx⟩, st', fun b hb => (hf b hb).1⟩⟩
  done := by
    intro X hP hw hK hc i pins s σ H E I hf st hg
    subst hP hw hK
    obtain ⟨xs, hq, hx⟩ := hg
    obtain ⟨its, rv, p, hz⟩ := I.tuple hq
    obtain ⟨f0, f1, f2, f3, f4, f5⟩ := hf it (by simp)
    have hl := rv.length
    exact wpAny_pyNext_tuple_end (I.ok.hd hc) st (show s.heap.IsTuple a its.toArray from p) (by simp; omega) fun h' eb => ⟨rfl, I.turned (t' := s.toks) (fun b o hb e => eb b o hb e) f0 f1 f3 f4 f5⟩
  self := fun _ _ _ _ _ st h => wpAny_pyIter_tupleiter st h
theorem turn_range {P : Program} {w : World} {K : PySem.W.Frag} {tg : Expr} (it : Addr) (lo : Int) (n : Nat) : Turn P w K tg (Itr lo n) [it] it (fun i h => IsRangeIter h it (lo + (i : Nat) * 1) ((n : Int) - (i : Nat)) 1) where
  mem := by simp
  obj := fun i h st b hb => by
    have e : b = it := by simpa using hb
    subst e
    exact ⟨_, st, fun v z => by
      have z' : Data.fields _ = Data.cell v := z
      cases z'⟩
  keep := fun i h h' st k => k it (by simp) _ st
  item := by
    intro X hP hw hK hc i pins s σ H E I hf st hg
    subst hP hw hK
    obtain ⟨f0, f1, f2, f3, f4, f5⟩ := hf it (by simp)
    have W := Walks.range (prog := X.prog) (w := X.w) (I.ok.hd hc) it lo 1 n
    refine W.item i s _ _ hg st fun v h' tk hv st' kk => ?_
    obtain ⟨t, rfl⟩ := hv
    have I1 : Inv X pins σ H { s with heap := h', toks := tk } := I.turned (fun b o hb e => kk b o (by simpa using hb) e) f0 f1 f3 f4 f5
    refine ⟨_, rfl, go_of (s := { s with heap := h', toks := tk }) (n := "range_iterator") st' rfl rfl (by decide) ⟨.int (lo + i), H, I1, ⟨t, ?_⟩, ⟨rfl, rfl⟩, st', fun b hb => (hf b hb).1⟩⟩
    rw [Int.mul_one]
  done := by
    intro X hP hw hK hc i pins s σ H E I hf st hg
    subst hP hw hK
    obtain ⟨f0, f1, f2, f3, f4, f5⟩ := hf it (by simp)
    exact wpAny_pyNext_range_end (I.ok.hd hc) st (by have : n ≤ i := hg; omega) fun h' eb => ⟨rfl, I.turned (t' := s.toks) (fun b o hb e => eb b o hb e) f0 f1 f3 f4 f5⟩
  self := fun _ _ _ _ _ st h => wpAny_pyIter_rangeiter st h
end L2
namespace L2
open PySem PySem.Spec PyProof.Rows
section
variable {X : Cx} {tg : Expr}
theorem range_it {pins : List (Addr × Obj)} {σ : St} {H : Hp} {s : Shared} {R : It → Hp → Prop} {E : Value → Shared → Prop} {lo hi : Int} {t u v : Tok} {tk : Nat} (I : Inv X pins σ H s) (h1 : -(2 ^ 62) ≤ lo) (h2 : lo < 2 ^ 62) (h3 : -(2 ^ 62) ≤ hi) (h4 : hi < 2 ^ 62)
    (q : R (Itr lo (hi - lo).toNat) H) : wpAny (model X.prog X.w) X.A (pyIter (.ref s.heap.objs.size)) (PIE X pins σ tg R) E { s with heap := s.heap.push { cls := .type "range", data := .fields #[.int lo t, .int hi u, .int 1 v] }, toks := tk } := by
  refine wpAny_pyIter_range (IsRange.new ..) (small_one h1 h2 h3 h4) ?_
  have I1 : Inv X pins σ H { s with heap := s.heap.push { cls := .type "range", data := .fields #[.int lo t, .int hi u, .int 1 v] }, toks := tk } := I.kept fun b o e => Heap.get?_push_of_some _ e
  refine ⟨(s.heap.push { cls := .type "range", data := .fields #[.int lo t, .int hi u, .int 1 v] }).objs.size, [(s.heap.push { cls := .type "range", data := .fields #[.int lo t, .int hi u, .int 1 v] }).objs.size], _, _, H, rfl,
    I1.kept (t' := tk) fun b o e => Heap.get?_push_of_some _ e, turn_range _ lo (hi - lo).toNat, ?_, fun b hb => ?_, q⟩
  · have e1 : lo + ((0 : Nat) : Int) * 1 = lo := by simp
    have e2 : (((hi - lo).toNat : Nat) : Int) - ((0 : Nat) : Int) = Builtin.Range.rangeSize lo hi 1 := by rw [rangeSize_one]; split <;> omega
    show IsRangeIter _ _ (lo + ((0 : Nat) : Int) * 1) ((((hi - lo).toNat : Nat) : Int) - ((0 : Nat) : Int)) 1
    rw [e1, e2]
    exact Heap.get?_push_size _ rfl
  · have e : b = (s.heap.push { cls := .type "range", data := .fields #[.int lo t, .int hi u, .int 1 v] }).objs.size := by simpa using hb
    subst e
    exact I1.fpOk (Nat.le_refl _) (I1.hok.fresh (Nat.le_refl _))
def iRng1 (ta : TA) : TI := fun σ H R => ta σ H fun vs H1 => ∃ j : Int, vs = [.int j] ∧ -(2 ^ 62) ≤ j ∧ j < 2 ^ 62 ∧ R (Itr 0 j.toNat) H1
theorem pi_range1 {a : Expr} {ta : TA} {p pos : Pos} (hg : Gl X "range") (hm : X.mg "range" = none) (ha : PA X [a] ta) (hs : starEach [a] X.env = [(false, eval a X.env)] := by rfl) : PI X tg (.Call (.Name "range" p) [a] [] pos) (iRng1 ta) := by
  intro pins s σ H R I h
  refine Call_ (ld_blt I hg hm boot_range (PyProof.Rows.callWith_type1 (thn (ha pos pins s σ H _ I h) fun us s1 ⟨vs, H1, I1, r1, q1⟩ => ?_) hs rfl))
  obtain ⟨j, e, q1, q2, q⟩ := q1
  subst e
  cases r1 with
  | cons r rr =>
    cases rr
    obtain ⟨t, rfl⟩ := r
    exact call_range_1 (range_it I1 (by omega) (by omega) q1 q2 (by simpa using q))
def tFor (wi : TI) (g : TG) (tb : TS) : TS := fun D σ H => wi σ H fun J H1 => ∃ W : Nat → Nat → St → Hp → Prop, (∃ m, W 0 m σ H1) ∧ ∀ i m σ H, W i m σ H →
  (J.stop i H ∧ D.nx σ H) ∨ (J.go i H ∧ ∃ N : St → Hp → Prop, (∀ σ' H', N σ' H' → ∃ m', m' < m ∧ W (i + 1) m' σ' H') ∧ ∀ x H', J.yld i H x H' → g x σ H' fun σ2 H2 => tb { D with nx := N, ct := N, bk := D.nx } σ2 H2)
def pinsAt (fp : List Addr) (h : Heap) : List (Addr × Obj) := fp.filterMap fun b => (h.get? b).map fun o => (b, o)
theorem mem_pinsAt {fp : List Addr} {h : Heap} {b : Addr} {o : Obj} (hb : b ∈ fp) (e : h.get? b = some o) : (b, o) ∈ pinsAt fp h := List.mem_filterMap.mpr ⟨b, hb, by rw [e]; rfl⟩
theorem of_pinsAt {fp : List Addr} {h : Heap} {p : Addr × Obj} (hp : p ∈ pinsAt fp h) : p.1 ∈ fp ∧ h.get? p.1 = some p.2 := by
  obtain ⟨b, hb, e⟩ := List.mem_filterMap.mp hp
  cases q : h.get? b with
  | none => rw [q] at e; cases e
  | some o =>
    rw [q] at e
    have e' : (b, o) = p := Option.some.inj e
    subst e'
    exact ⟨hb, q⟩
theorem Inv.pinned {pins : List (Addr × Obj)} {σ : St} {H : Hp} {s : Shared} {fp : List Addr} (I : Inv X pins σ H s) (hf : ∀ b ∈ fp, FpOk X pins H b) (ho : ∀ b ∈ fp, ∃ o, s.heap.get? b = some o ∧ ∀ v, o.data ≠ .cell v) : Inv X (pins ++ pinsAt fp s.heap) σ H s :=
  I.pins_of fun p hp => (List.mem_append.mp hp).elim (fun z => I.pin p (List.mem_append_right _ z)) fun z => by
    obtain ⟨hb, e⟩ := of_pinsAt z
    obtain ⟨f0, f1, f2, _⟩ := hf p.1 hb
    obtain ⟨o, e', d⟩ := ho p.1 hb
    rw [e] at e'; cases e'
    exact ⟨e, f0, f1, f2, d⟩
theorem Inv.unpinned {pins pl : List (Addr × Obj)} {σ : St} {H : Hp} {s : Shared} (I : Inv X (pins ++ pl) σ H s) : Inv X pins σ H s := I.pins_of fun p hp => I.pin p (List.mem_append_right _ (List.mem_append_left _ hp))
theorem ps_for {iter : Expr} {body : List Stmt} {wi : TI} {g : TG} {tb : TS} {pos : Pos} (hp : PassesOwn (model X.prog X.w) X.A X.env X.xe) (hc : X.calm = true) (hi : PI X tg iter wi) (hg : PG X tg g) (hb : PSs X body tb)
    (hs : ∀ x, foldedSetIterable iter X.env x = pure x := by intro _; rfl) : PS X (.For tg iter body [] pos) (tFor wi g tb) := by
  intro pins s σ H D I h
  refine wpAny_For (thn (hi pins s σ H _ I h) fun v s1 h1 => thn h1 fun itv s2 h2 => ?_) hs
  obtain ⟨it, fp, tn, J, H2, e, I2, T, st2, f2, W, ⟨m0, w0⟩, turn⟩ := h2
  subst e
  -- what stays true of the iterator's objects through the loop
  have stat : ∀ {H' : Hp}, (∀ b ∈ fp, H' b = none) → ∀ b ∈ fp, FpOk X pins H' b := fun hn b hb => ⟨hn b hb, (f2 b hb).2⟩
  refine codeAny_forLoop_any (fun n s' => ∃ i σ' H', Inv X pins σ' H' s' ∧ tn i s'.heap ∧ (∀ b ∈ fp, H' b = none) ∧ W i n σ' H') ?_ m0 ⟨0, σ, H2, I2, st2, fun b hb => (f2 b hb).1, w0⟩
  rintro n s3 ⟨i, σ3, H3, I3, st3, fr3, w3⟩
  rcases turn i n σ3 H3 w3 with ⟨stop, qn⟩ | ⟨go, N, hN, step⟩
  · refine wpAny_passesOwn hp (thn (T.done X rfl rfl rfl hc i pins s3 σ3 H3 X.xe I3 (stat fr3) st3 stop) fun r s4 ⟨hr, I4⟩ => ?_)
    subst hr
    exact wpAny_execs_nil ⟨σ3, H3, I4, qn⟩
  · refine wpAny_passesOwn hp (thn (T.item X rfl rfl rfl hc i pins s3 σ3 H3 X.xe I3 (stat fr3) st3 go) fun r s4 ⟨u, hr, h4⟩ => ?_)
    subst hr
    refine wpAny_passesOwn hp (thn h4 fun _ s5 ⟨x, H5, I5, r5, y5, st5, fr5⟩ => ?_)
    have I5' := I5.pinned (stat fr5) (T.obj _ _ st5)
    refine wpAny_passesOwn hp (thn (hg _ s5 σ3 H5 x u _ I5' r5 (step x H5 y5)) fun _ s6 ⟨σ6, H6, I6, q6⟩ => ?_)
    refine wpAny_passesOwn hp (thn (hb _ s6 σ6 H6 _ I6 q6) fun f s7 q7 => ?_)
    have again : ∀ {σ7 : St} {H7 : Hp}, Inv X (pins ++ pinsAt fp s5.heap) σ7 H7 s7 → N σ7 H7 → ∃ m, m < n ∧ ∃ i σ' H', Inv X pins σ' H' s7 ∧ tn i s7.heap ∧ (∀ b ∈ fp, H' b = none) ∧ W i m σ' H' := fun {σ7 H7} I7 n7 => by
      obtain ⟨m', hm, w7⟩ := hN σ7 H7 n7
      refine ⟨m', hm, i + 1, σ7, H7, I7.unpinned, T.keep _ _ _ st5 fun b hb o e => (I7.pin (b, o) (List.mem_append_right _ (List.mem_append_right _ (mem_pinsAt hb e)))).1, fun b hb => ?_, w7⟩
      obtain ⟨o, e, d⟩ := T.obj _ _ st5 b hb
      exact (I7.pin (b, o) (List.mem_append_right _ (List.mem_append_right _ (mem_pinsAt hb e)))).2.1
    cases f with
    | next => obtain ⟨σ7, H7, I7, n7⟩ := q7; exact again I7 n7
    | cont => obtain ⟨σ7, H7, I7, n7⟩ := q7; exact again I7 n7
    | brk => obtain ⟨σ7, H7, I7, q7⟩ := q7; exact ⟨σ7, H7, I7.unpinned, q7⟩
    | ret v => obtain ⟨x7, σ7, H7, I7, r7, q7⟩ := q7; exact ⟨x7, σ7, H7, I7.unpinned, r7, q7⟩
end
end L2
namespace L2
open PySem PySem.Spec PyProof.Rows
abbrev R2 := V → V → Hp → VK → Prop
def OpR (X : Cx) (f : Value → Value → Sem Value) (r : R2) : Prop :=
  ∀ (pins : List (Addr × Obj)) (s : Shared) (σ : St) (H : Hp) (x y : V) (v u : Value) (Q : VK), Inv X pins σ H s → RelV x v → RelV y u → r x y H Q →
    wpAny (model X.prog X.w) X.A (f v u) (EP X pins σ Q) X.xe s
def UnR (X : Cx) (f : Value → Sem Value) (r : V → Hp → VK → Prop) : Prop :=
  ∀ (pins : List (Addr × Obj)) (s : Shared) (σ : St) (H : Hp) (x : V) (v : Value) (Q : VK), Inv X pins σ H s → RelV x v → r x H Q →
    wpAny (model X.prog X.w) X.A (f v) (EP X pins σ Q) X.xe s
def CallR (X : Cx) (f : Value) (r : List V → Hp → VK → Prop) : Prop :=
  ∀ (pins : List (Addr × Obj)) (s : Shared) (σ : St) (H : Hp) (xs : List V) (us : List Value) (Q : VK), Inv X pins σ H s → Vals xs us → r xs H Q →
    wpAny (model X.prog X.w) X.A (call f us) (EP X pins σ Q) X.xe s
def tOp (r : R2) (ta tb : TE) : TE := fun σ H Q => ta σ H fun x H1 => tb σ H1 fun y H2 => r x y H2 Q
def tUn (r : V → Hp → VK → Prop) (ta : TE) : TE := fun σ H Q => ta σ H fun x H1 => r x H1 Q
def rI (C : Int → Int → Prop) (g : Int → Int → V) : R2 := fun x y H Q => ∃ i j, x = .int i ∧ y = .int j ∧ C i j ∧ Q (g i j) H
def rI0 (g : Int → Int → V) : R2 := fun x y H Q => ∃ i j, x = .int i ∧ y = .int j ∧ Q (g i j) H
def rU (g : Int → V) : V → Hp → VK → Prop := fun x H Q => ∃ i, x = .int i ∧ Q (g i) H
section
variable {X : Cx} {a b c : Expr} {ta tb tc : TE} {pos : Pos}
theorem binT (ha : PE X a ta) (hb : PE X b tb) {pins : List (Addr × Obj)} {s : Shared} {σ : St} {H : Hp} {R : V → V → Hp → Prop} (I : Inv X pins σ H s)
    (h : ta σ H fun x H1 => tb σ H1 fun y H2 => R x y H2) {Q : Value → Shared → Prop} {f : Value → Value → Sem Value}
    (hf : ∀ v u s2 x y H2, Inv X pins σ H2 s2 → RelV x v → RelV y u → R x y H2 → wpAny (model X.prog X.w) X.A (f v u) Q X.xe s2) :
    wpAny (model X.prog X.w) X.A (eval a X.env) (fun v s₁ => wpAny (model X.prog X.w) X.A (eval b X.env) (fun u s₂ => wpAny (model X.prog X.w) X.A (f v u) Q X.xe s₂) X.xe s₁) X.xe s := by
  refine thn (ha pins s σ H _ I h) fun v s1 ⟨x, H1, I1, r1, q1⟩ => ?_
  refine thn (hb pins s1 σ H1 _ I1 q1) fun u s2 ⟨y, H2, I2, r2, q2⟩ => ?_
  exact hf v u s2 x y H2 I2 r1 r2 q2
theorem pe_op {op : Operator} {r : R2} (ho : OpR X (binaryOp op) r) (ha : PE X a ta) (hb : PE X b tb) : PE X (.BinOp a op b pos) (tOp r ta tb) := by
  intro pins s σ H Q I h
  exact wpAny_BinOp (binT ha hb I h fun v u s2 x y H2 I2 rx ry q => ho pins s2 σ H2 x y v u Q I2 rx ry q)
theorem pe_un {op : UnaryOp} {r : V → Hp → VK → Prop} (ho : UnR X (unaryOp op) r) (ha : PE X a ta) : PE X (.UnaryOp op a pos) (tUn r ta) := by
  intro pins s σ H Q I h
  exact UnaryOp_ (thn (ha pins s σ H _ I h) fun v s1 ⟨x, H1, I1, r1, q1⟩ => ho pins s1 σ H1 x v Q I1 r1 q1)
theorem opI {f : Value → Value → Sem Value} {C : Int → Int → Prop} {g : Int → Int → Int}
    (rule : ∀ (i j : Int) (t u : Tok) (s : Shared) (Q : Value → Shared → Prop) (E : Value → Shared → Prop), C i j → Q (.int (g i j) s.toks) { s with toks := s.toks + 1 } → wpAny (model X.prog X.w) X.A (f (.int i t) (.int j u)) Q E s) :
    OpR X f (rI C fun i j => .int (g i j)) := by
  intro pins s σ H x y v u Q I rx ry h
  obtain ⟨i, j, rfl, rfl, hc, q⟩ := h
  obtain ⟨t, rfl⟩ := rx
  obtain ⟨t', rfl⟩ := ry
  exact rule i j t t' s _ _ hc ⟨.int (g i j), H, I.tok _, ⟨_, rfl⟩, q⟩
theorem opI0 {f : Value → Value → Sem Value} {g : Int → Int → Int}
    (rule : ∀ (i j : Int) (t u : Tok) (s : Shared) (Q : Value → Shared → Prop) (E : Value → Shared → Prop), Q (.int (g i j) s.toks) { s with toks := s.toks + 1 } → wpAny (model X.prog X.w) X.A (f (.int i t) (.int j u)) Q E s) :
    OpR X f (rI0 fun i j => .int (g i j)) := by
  intro pins s σ H x y v u Q I rx ry h
  obtain ⟨i, j, rfl, rfl, q⟩ := h
  obtain ⟨t, rfl⟩ := rx
  obtain ⟨t', rfl⟩ := ry
  exact rule i j t t' s _ _ ⟨.int (g i j), H, I.tok _, ⟨_, rfl⟩, q⟩
theorem opB0 {f : Value → Value → Sem Value} {g : Int → Int → Bool}
    (rule : ∀ (i j : Int) (t u : Tok) (s : Shared) (Q : Value → Shared → Prop) (E : Value → Shared → Prop), Q (.bool (g i j)) s → wpAny (model X.prog X.w) X.A (f (.int i t) (.int j u)) Q E s) :
    OpR X f (rI0 fun i j => .bl (g i j)) := by
  intro pins s σ H x y v u Q I rx ry h
  obtain ⟨i, j, rfl, rfl, q⟩ := h
  obtain ⟨t, rfl⟩ := rx
  obtain ⟨t', rfl⟩ := ry
  exact rule i j t t' s _ _ ⟨.bl (g i j), H, I, rfl, q⟩
def CPow (i j : Int) : Prop := 0 ≤ j ∧ j ≤ 1000000 ∧ i.natAbs < 2 ^ 64
def CMul (i j : Int) : Prop := (-(2 ^ 64) < i ∧ i < 2 ^ 64) ∨ (-(2 ^ 64) < j ∧ j < 2 ^ 64)
theorem CMul.ok {i j : Int} (h : CMul i j) : IntMulOk i j := by
  rcases h with ⟨h1, h2⟩ | ⟨h1, h2⟩
  · exact .of_left (intBits_le_64 h1 h2)
  · exact .of_right (intBits_le_64 h1 h2)
theorem op_add : OpR X (binaryOp .Add) (rI0 fun i j => .int (i + j)) := opI0 fun _ _ _ _ _ _ _ q => add_int q
theorem op_modN : OpR X (binaryOp .Mod) (rI (fun _ j => j ≠ 0) fun i j => .int (i.fmod j)) := opI fun _ _ _ _ _ _ _ hc q => mod_int' hc q
theorem op_pow : OpR X (binaryOp .Pow) (rI CPow fun i j => .int (i ^ j.toNat)) := opI fun _ _ _ _ _ _ _ hc q => pow_int_small hc.1 hc.2.1 hc.2.2 q
theorem unI {f : Value → Sem Value} {g : Int → Int}
    (rule : ∀ (i : Int) (t : Tok) (s : Shared) (Q : Value → Shared → Prop) (E : Value → Shared → Prop), Q (.int (g i) s.toks) { s with toks := s.toks + 1 } → wpAny (model X.prog X.w) X.A (f (.int i t)) Q E s) :
    UnR X f (rU fun i => .int (g i)) := by
  intro pins s σ H x v Q I rx h
  obtain ⟨i, rfl, q⟩ := h
  obtain ⟨t, rfl⟩ := rx
  exact rule i t s _ _ ⟨.int (g i), H, I.tok _, ⟨_, rfl⟩, q⟩
theorem un_neg : UnR X (unaryOp .USub) (rU fun i => .int (-i)) := unI fun _ _ _ _ _ q => neg_int q
end
def scal : V → V → Bool
  | .non, .non => true | .non, .int _ => true | .int _, .non => true | .non, .bl _ => true | .bl _, .non => true | .non, .str _ => true | .str _, .non => true
  | .int _, .int _ => true | .bl _, .bl _ => true | .str _, .str _ => true | .byt _, .byt _ => true
  | .int _, .str _ => true | .str _, .int _ => true | .bl _, .str _ => true | .str _, .bl _ => true
  | _, _ => false
def rEq : R2 := fun x y H Q => scal x y = true ∧ Q (.bl (decide (x = y))) H
def rNe : R2 := fun x y H Q => scal x y = true ∧ Q (.bl (!decide (x = y))) H
theorem dec_int {i j : Int} : decide (V.int i = V.int j) = (i == j) := by
  rw [Bool.eq_iff_iff]
  simp
theorem dec_bl {i j : Bool} : decide (V.bl i = V.bl j) = (i == j) := by
  rw [Bool.eq_iff_iff]
  simp
theorem dec_str {i j : Str} : decide (V.str i = V.str j) = (i == j) := by
  rw [Bool.eq_iff_iff]
  simp
theorem dec_byt {i j : Array UInt8} : decide (V.byt i = V.byt j) = (i.toList == j.toList) := by
  rw [Bool.eq_iff_iff]
  cases i
  cases j
  simp
section
variable {X : Cx} {a b c : Expr} {ta tb tc : TE} {pos : Pos}
theorem fin_bl {pins : List (Addr × Obj)} {σ : St} {H : Hp} {s : Shared} {Q : VK} {k k' : Bool} (I : Inv X pins σ H s) (q : Q (.bl k) H) (e : k = k') : EP X pins σ Q (.bool k') s := by
  subst e
  exact ⟨.bl k, H, I, rfl, q⟩
theorem op_eq : OpR X (compareOp .Eq) rEq := by
  intro pins s σ H x y v u Q I rx ry h
  obtain ⟨hs, q⟩ := h
  cases x with
  | non =>
    cases rx
    cases y with
    | non => cases ry; exact PySem.EqNone.eq_none_none (fin_bl I q (by simp))
    | bl j => cases ry; exact PySem.EqNone.eq_none_bool (fin_bl I q (by simp))
    | int j => obtain ⟨t', rfl⟩ := ry; exact PySem.EqNone.eq_none_int (fin_bl I q (by simp))
    | str j => obtain ⟨t', rfl⟩ := ry; exact PySem.EqNone.eq_none_str (fin_bl I q (by simp))
    | _ => exact absurd (show false = true from hs) Bool.false_ne_true
  | bl i =>
    cases rx
    cases y with
    | non => cases ry; exact PySem.EqNone.eq_bool_none (fin_bl I q (by simp))
    | bl j => cases ry; exact eq_bool (fin_bl I q dec_bl)
    | str j => obtain ⟨t', rfl⟩ := ry; exact PySem.EqMixed.eq_bool_str (fin_bl I q (by simp))
    | _ => exact absurd (show false = true from hs) Bool.false_ne_true
  | int i =>
    obtain ⟨t, rfl⟩ := rx
    cases y with
    | non => cases ry; exact PySem.EqNone.eq_int_none (fin_bl I q (by simp))
    | int j => obtain ⟨t', rfl⟩ := ry; exact eq_int (fin_bl I q dec_int)
    | str j => obtain ⟨t', rfl⟩ := ry; exact PySem.EqMixed.eq_int_str (fin_bl I q (by simp))
    | _ => exact absurd (show false = true from hs) Bool.false_ne_true
  | str i =>
    obtain ⟨t, rfl⟩ := rx
    cases y with
    | non => cases ry; exact PySem.EqNone.eq_str_none (fin_bl I q (by simp))
    | bl j => cases ry; exact PySem.EqMixed.eq_str_bool (fin_bl I q (by simp))
    | int j => obtain ⟨t', rfl⟩ := ry; exact PySem.EqMixed.eq_str_int (fin_bl I q (by simp))
    | str j => obtain ⟨t', rfl⟩ := ry; exact eq_str (fin_bl I q dec_str)
    | _ => exact absurd (show false = true from hs) Bool.false_ne_true
  | byt i =>
    obtain ⟨t, rfl⟩ := rx
    cases y with
    | byt j => obtain ⟨t', rfl⟩ := ry; exact PySem.W.eq_bytes (fin_bl I q dec_byt)
    | _ => exact absurd (show false = true from hs) Bool.false_ne_true
  | _ => cases y <;> exact absurd (show false = true from hs) Bool.false_ne_true
theorem op_ne : OpR X (compareOp .NotEq) rNe := by
  intro pins s σ H x y v u Q I rx ry h
  obtain ⟨hs, q⟩ := h
  cases x with
  | non =>
    cases rx
    cases y with
    | non => cases ry; exact PySem.EqNone.ne_none_none (fin_bl I q (by simp))
    | bl j => cases ry; exact PySem.EqNone.ne_none_bool (fin_bl I q (by simp))
    | int j => obtain ⟨t', rfl⟩ := ry; exact PySem.EqNone.ne_none_int (fin_bl I q (by simp))
    | str j => obtain ⟨t', rfl⟩ := ry; exact PySem.EqNone.ne_none_str (fin_bl I q (by simp))
    | _ => exact absurd (show false = true from hs) Bool.false_ne_true
  | bl i =>
    cases rx
    cases y with
    | non => cases ry; exact PySem.EqNone.ne_bool_none (fin_bl I q (by simp))
    | bl j => cases ry; exact ne_bool (fin_bl I q (congrArg not dec_bl))
    | str j => obtain ⟨t', rfl⟩ := ry; exact PySem.EqMixed.ne_bool_str (fin_bl I q (by simp))
    | _ => exact absurd (show false = true from hs) Bool.false_ne_true
  | int i =>
    obtain ⟨t, rfl⟩ := rx
    cases y with
    | non => cases ry; exact PySem.EqNone.ne_int_none (fin_bl I q (by simp))
    | int j => obtain ⟨t', rfl⟩ := ry; exact ne_int (fin_bl I q (congrArg not dec_int))
    | str j => obtain ⟨t', rfl⟩ := ry; exact PySem.EqMixed.ne_int_str (fin_bl I q (by simp))
    | _ => exact absurd (show false = true from hs) Bool.false_ne_true
  | str i =>
    obtain ⟨t, rfl⟩ := rx
    cases y with
    | non => cases ry; exact PySem.EqNone.ne_str_none (fin_bl I q (by simp))
    | bl j => cases ry; exact PySem.EqMixed.ne_str_bool (fin_bl I q (by simp))
    | int j => obtain ⟨t', rfl⟩ := ry; exact PySem.EqMixed.ne_str_int (fin_bl I q (by simp))
    | str j => obtain ⟨t', rfl⟩ := ry; exact ne_str (fin_bl I q (congrArg not dec_str))
    | _ => exact absurd (show false = true from hs) Bool.false_ne_true
  | byt i =>
    obtain ⟨t, rfl⟩ := rx
    cases y with
    | byt j => obtain ⟨t', rfl⟩ := ry; exact PySem.W.ne_bytes (fin_bl I q (congrArg not dec_byt))
    | _ => exact absurd (show false = true from hs) Bool.false_ne_true
  | _ => cases y <;> exact absurd (show false = true from hs) Bool.false_ne_true
theorem op_lt : OpR X (compareOp .Lt) (rI0 fun i j => .bl (decide (i < j))) := opB0 fun _ _ _ _ _ _ _ q => lt_int q
theorem op_le : OpR X (compareOp .LtE) (rI0 fun i j => .bl (decide (i ≤ j))) := opB0 fun _ _ _ _ _ _ _ q => le_int q
theorem op_gt : OpR X (compareOp .Gt) (rI0 fun i j => .bl (decide (j < i))) := opB0 fun _ _ _ _ _ _ _ q => gt_int q
theorem op_ge : OpR X (compareOp .GtE) (rI0 fun i j => .bl (decide (j ≤ i))) := opB0 fun _ _ _ _ _ _ _ q => ge_int q
theorem OpR.or {f : Value → Value → Sem Value} {r r' : R2} (h : OpR X f r) (h' : OpR X f r') : OpR X f (fun x y H Q => r x y H Q ∨ r' x y H Q) := by
  intro pins s σ H x y v u Q I rx ry q
  rcases q with q | q
  · exact h pins s σ H x y v u Q I rx ry q
  · exact h' pins s σ H x y v u Q I rx ry q
theorem nomark (b : Expr) {op : CmpOp} (h : op ≠ .In := by decide) (h2 : op ≠ .NotIn := by decide) : behindInMarks op b = false := by
  have e1 : (op == CmpOp.In) = false := by cases op <;> first | rfl | exact absurd rfl h
  have e2 : (op == CmpOp.NotIn) = false := by cases op <;> first | rfl | exact absurd rfl h2
  cases b <;> simp [behindInMarks, e1, e2]
theorem pe_cmpR {op : CmpOp} {r : R2} (ho : OpR X (compareOp op) r) (ha : PE X a ta) (hb : PE X b tb) (hm : behindInMarks op b = false) : PE X (.Compare a [op] [b] pos) (tOp r ta tb) := by
  intro pins s σ H Q I h
  exact wpAny_Compare1 (binT ha hb I h fun v u s2 x y H2 I2 rx ry q => ho pins s2 σ H2 x y v u Q I2 rx ry q) hm
def tTest (t : TE) : TT := fun σ H Q => t σ H fun x H' => ∃ k, x = .bl k ∧ Q k H'
theorem pt_cmpR {op : CmpOp} {r : R2} (ho : OpR X (compareOp op) r) (ha : PE X a ta) (hb : PE X b tb) (hm : behindInMarks op b = false) : PT X (.Compare a [op] [b] pos) (tTest (tOp r ta tb)) := by
  intro pins s σ H Q I h
  refine wpAny_isTrue_Compare1 (thn (ha pins s σ H _ I h) fun v s1 ⟨x, H1, I1, r1, q1⟩ => thn (hb pins s1 σ H1 _ I1 q1) fun u s2 ⟨y, H2, I2, r2, q2⟩ =>
    thn (ho pins s2 σ H2 x y v u _ I2 r1 r2 q2) fun c s3 ⟨z, H3, I3, r3, k, e, q3⟩ => ?_) hm
  subst e
  cases r3
  exact wpAny_truthy_bool ⟨H3, I3, q3⟩
def tChain (r r' : R2) (ta tb tc : TE) : TE := fun σ H Q => ta σ H fun x H1 => tb σ H1 fun y H2 => r x y H2 fun z H3 => ∃ k, z = .bl k ∧
  (if k = true then tc σ H3 fun w' H4 => r' y w' H4 Q else Q (.bl false) H3)
theorem pe_chain {op op' : CmpOp} {r r' : R2} (ho : OpR X (compareOp op) r) (ho' : OpR X (compareOp op') r') (ha : PE X a ta) (hb : PE X b tb) (hc : PE X c tc)
    (hm : lastMarks [op, op'] [b, c] = false := by with_unfolding_all rfl) : PE X (.Compare a [op, op'] [b, c] pos) (tChain r r' ta tb tc) := by
  intro pins s σ H Q I h
  refine Compare_chain (thn (ha pins s σ H _ I h) fun v s1 ⟨x, H1, I1, r1, q1⟩ => chain_link (thn (hb pins s1 σ H1 _ I1 q1) fun u s2 ⟨y, H2, I2, r2, q2⟩ =>
    thn (ho pins s2 σ H2 x y v u _ I2 r1 r2 q2) fun d s3 ⟨z, H3, I3, r3, k, e, q3⟩ => ?_)) hm
  subst e
  cases r3
  refine wpAny_truthy_bool ?_
  cases k with
  | false => exact ite_ff ⟨.bl false, H3, I3, rfl, q3⟩
  | true => exact ite_tt (chain_last (thn (hc pins s3 σ H3 _ I3 q3) fun w' s4 ⟨z', H4, I4, r4, q4⟩ => ho' pins s4 σ H4 y z' u w' Q I4 r2 r4 q4))
theorem pt_chain {op op' : CmpOp} {r r' : R2} (ho : OpR X (compareOp op) r) (ho' : OpR X (compareOp op') r') (ha : PE X a ta) (hb : PE X b tb) (hc : PE X c tc)
    (hm : lastMarks [op, op'] [b, c] = false := by with_unfolding_all rfl) : PT X (.Compare a [op, op'] [b, c] pos) (tTest (tChain r r' ta tb tc)) := by
  intro pins s σ H Q I h
  refine isTrue_chain (thn (ha pins s σ H _ I h) fun v s1 ⟨x, H1, I1, r1, q1⟩ => test_link (thn (hb pins s1 σ H1 _ I1 q1) fun u s2 ⟨y, H2, I2, r2, q2⟩ =>
    thn (ho pins s2 σ H2 x y v u _ I2 r1 r2 q2) fun d s3 ⟨z, H3, I3, r3, k, e, q3⟩ => ?_)) hm
  subst e
  cases r3
  refine wpAny_truthy_bool ?_
  cases k with
  | false =>
    obtain ⟨k', e', q'⟩ := q3
    cases e'
    exact ite_ff ⟨H3, I3, q'⟩
  | true =>
    refine ite_tt (test_last (thn (hc pins s3 σ H3 _ I3 q3) fun w' s4 ⟨z', H4, I4, r4, q4⟩ => thn (ho' pins s4 σ H4 y z' u w' _ I4 r2 r4 q4) fun d' s5 ⟨z2, H5, I5, r5, k2, e2, q5⟩ => ?_))
    subst e2
    cases r5
    exact wpAny_truthy_bool ⟨H5, I5, q5⟩
theorem line63 : (sizeLine : Nat) < 2 ^ 63 := by rw [sizeLine_eq]; decide
theorem vals1 {x : V} {us : List Value} (r : Vals [x] us) : ∃ u, us = [u] ∧ RelV x u := by
  cases r with
  | cons r1 r2 => cases r2; exact ⟨_, rfl, r1⟩
theorem vals2 {x y : V} {us : List Value} (r : Vals [x, y] us) : ∃ u w', us = [u, w'] ∧ RelV x u ∧ RelV y w' := by
  cases r with
  | cons r1 r2 =>
    cases r2 with
    | cons r3 r4 => cases r4; exact ⟨_, _, rfl, r1, r3⟩
theorem call_abs : CallR X (.builtin "abs") (fun xs H Q => ∃ i, xs = [.int i] ∧ Q (.int (if i < 0 then -i else i)) H) := by
  intro pins s σ H xs us Q I r h
  obtain ⟨i, rfl, q⟩ := h
  obtain ⟨u, rfl, t, rfl⟩ := vals1 r
  exact call_abs_int fun u tk => ⟨.int (if i < 0 then -i else i), H, I.tok _, ⟨_, rfl⟩, q⟩
theorem call_int1 : CallR X (.type "int") (fun xs H Q => (∃ i, xs = [.int i] ∧ Q (.int i) H) ∨ ∃ k, xs = [.bl k] ∧ Q (.int (if k then 1 else 0)) H) := by
  intro pins s σ H xs us Q I r h
  rcases h with ⟨i, rfl, q⟩ | ⟨k, rfl, q⟩
  · obtain ⟨u, rfl, t, rfl⟩ := vals1 r
    exact call_int_int ⟨.int i, H, I, ⟨_, rfl⟩, q⟩
  · obtain ⟨u, rfl, r1⟩ := vals1 r
    cases r1
    exact call_int_bool ⟨.int (if k then 1 else 0), H, I.tok _, ⟨_, rfl⟩, q⟩
end
end L2
namespace L2
open PySem PySem.Spec PyProof.Rows
structure ObjM (h : Heap) (x dx C : Addr) (mA : Str → Option Value) : Prop where
  obj : h.get? x = some (PySem.W.instObj C dx)
  ns : h.Ns1 dx mA
  ne : dx ≠ x
theorem lookIn_ns {h : Heap} {dx : Addr} {mA : Str → Option Value} (n : h.Ns1 dx mA) : ∃ od, h.get? dx = some od ∧ ∀ name, PySem.W.lookIn name od = some (mA name) := by
  obtain ⟨o, es, ep, ho, hd, hk, _, hm⟩ := n
  refine ⟨o, ho, fun name => ?_⟩
  have e := hm name
  unfold nsFind findBy at e
  rw [← Array.find?_toList] at e
  unfold PySem.W.lookIn
  rw [hd]
  dsimp only
  split
  · rename_i y q
    rw [q] at e
    exact congrArg some e
  · rename_i q
    rw [q] at e
    have a : es.toList.any (·.refKey) = false := by
      rw [List.any_eq_false]
      intro y hy
      obtain ⟨z, t, hkey⟩ := hk y (Array.mem_toList_iff.mp hy)
      simp [DictEntry.refKey, hkey]
    have a' : ¬ es.toList.any (·.refKey) = true := by rw [a]; exact Bool.false_ne_true
    rw [if_neg a']
    exact congrArg some e
theorem ObjM.look {h : Heap} {x dx C : Addr} {mA : Str → Option Value} (I : ObjM h x dx C mA) : ∃ od, PySem.W.InstAt h x (PySem.W.instObj C dx) C (some od) ∧ ∀ name, PySem.W.lookIn name od = some (mA name) :=
  let ⟨od, ho, hl⟩ := lookIn_ns I.ns
  ⟨od, ⟨I.obj, rfl, rfl, ho⟩, hl⟩
section
variable {prog : Program} {w : World} {A : Around} {E : Value → Shared → Prop} {s : Shared} {K : PySem.W.Frag} {x dx C f : Addr} {mA : Str → Option Value} {name : Str} {v : Value}
end
theorem RelO.some_of {v : V} {o : Option Value} (r : RelO (some v) o) : ∃ u, o = some u ∧ RelV v u := by
  cases o with
  | none => exact (show False from r).elim
  | some u => exact ⟨u, rfl, r⟩
theorem RelO.none_of {o : Option Value} (r : RelO none o) : o = none := by
  cases o with
  | none => rfl
  | some u => exact (show False from r).elim
section
variable {P : Program} {w : World} {H H' : Hp} {h h' : Heap} {a C dx : Addr} {fs fs' : List (Str × V)}
end
structure Cls (K : PySem.W.Frag) (C : Addr) : Prop where
  pg : PySem.W.plainGet K C Str.empty = true
  hd : PySem.W.hasDictIn K C = true
  po : PySem.W.plainOver K C = true
  sa : PySem.W.findIn K (.ref C) "__setattr__" = some (some (.builtin "object.__setattr__"))
theorem Cls.get {K : PySem.W.Frag} {C : Addr} (c : Cls K C) (f : Str) : PySem.W.plainGet K C f = true := c.pg
structure Con (K : PySem.W.Frag) (C : Addr) (f : Str) (v : V) (u : Value) : Prop where
  at_ : PySem.W.findIn K (.ref C) f = some (some u)
  rel : RelV v u
  get : PySem.W.specialIn K u "__get__" = some none
  cp : PySem.W.copiedNames.contains f = false
structure Meth (K : PySem.W.Frag) (C : Addr) (m : Str) (f : Addr) : Prop where
  at_ : PySem.W.findIn K (.ref C) m = some (some (.ref f))
  fn : PySem.W.isFn K (.ref f) = true
  kp : PySem.W.keepIn K (.ref f) = true
section
variable {X : Cx} {pins : List (Addr × Obj)} {σ : St} {H : Hp} {s : Shared} {a C dx : Addr} {fs : List (Str × V)} {f : Str} {v : V} {A : Around} {E : Value → Shared → Prop}
theorem Inv.made (I : Inv X pins σ H s) : Inv X pins σ (upd (upd H s.heap.objs.size (.own (s.heap.objs.size + 1))) (s.heap.objs.size + 1) (.ins C s.heap.objs.size []))
    { s with heap := (s.heap.push PySem.W.emptyDict).push (PySem.W.instObj C s.heap.objs.size) } := by
  have e1 : (s.heap.push PySem.W.emptyDict).get? s.heap.objs.size = some PySem.W.emptyDict := Heap.get?_push_size s.heap rfl
  have e2 : ((s.heap.push PySem.W.emptyDict).push (PySem.W.instObj C s.heap.objs.size)).get? (s.heap.objs.size + 1) = some (PySem.W.instObj C s.heap.objs.size) := by
    have := Heap.get?_push_size (s.heap.push PySem.W.emptyDict) (o := PySem.W.instObj C s.heap.objs.size) rfl
    rwa [Heap.size_push] at this
  have e3 : (s.heap.push PySem.W.emptyDict).Ns s.heap.objs.size (fun _ => none) := ⟨PySem.W.emptyDict, #[], _, e1, rfl, (fun e he => absurd he (by simp)), fun _ => rfl⟩
  have I1 := I.laid (a := s.heap.objs.size) (o := .own (s.heap.objs.size + 1)) (h' := s.heap.push PySem.W.emptyDict) (t' := s.toks) (fun b u q => Heap.get?_push_of_some _ q) (Nat.le_refl _) ⟨_, e1⟩
  refine I1.laid (a := s.heap.objs.size + 1) (o := .ins C s.heap.objs.size []) (t' := s.toks) (fun b u q => Heap.get?_push_of_some _ q) (Nat.le_of_eq (Heap.size_push _ _)) ?_
  have ne : s.heap.objs.size ≠ s.heap.objs.size + 1 := Nat.ne_of_lt (Nat.lt_succ_self _)
  refine ⟨by rw [upd_ne ne, upd_same], Nat.zero_le _, ne, e2, fun _ => none, (Heap.Ns1.of_empty e3).at fun o q => Heap.get?_push_of_some _ q, fun _ => True.intro, fun y hy => absurd rfl hy⟩
end
section
variable {X : Cx} {o e value : Expr} {f : Str} {pos pos' tpos : Pos} {ta tv : TE}
end
section
variable {X : Cx} {pins : List (Addr × Obj)} {σ : St} {H : Hp} {s : Shared} {A : Around} {E : Value → Shared → Prop} {Q : Value → Shared → Prop} {c : Value} {b : Bool}
inductive TyOf (K : PySem.W.Frag) (H : Hp) : V → Value → Prop where
  | non : TyOf K H .non (.type "NoneType")
  | bl (x : Bool) : TyOf K H (.bl x) (.type "bool")
  | int (i : Int) : TyOf K H (.int i) (.type "int")
  | str (x : Str) : TyOf K H (.str x) (.type "str")
  | flt (x : UInt64) : TyOf K H (.flt x) (.type "float")
  | lst {a : Addr} {xs : List V} (e : H a = some (.lst xs)) : TyOf K H (.ref a) (.type "list")
  | frz {a : Addr} {o : Obj} {xs : List V} (e : H a = some (.frz o (.lst xs))) : TyOf K H (.ref a) (.type "list")
  | tup {a : Addr} {xs : List V} (e : H a = some (.tup xs)) : TyOf K H (.ref a) (.type "tuple")
  | dK {a : Addr} {kvs : List (Key × V)} (e : H a = some (.dK kvs)) : TyOf K H (.ref a) (.type "dict")
  | dT {a : Addr} {kvs : List (List Key × V)} (e : H a = some (.dT kvs)) : TyOf K H (.ref a) (.type "dict")
  | ins {a C dx : Addr} {fs : List (Str × V)} (e : H a = some (.ins C dx fs)) (cl : Cls K C) (ha : PySem.W.findIn K (.ref C) "__class__" = some (some (.builtin "object.__class__")))
      (hn : PySem.W.specialIn K (.builtin "object.__class__") "__get__" = some (some (.builtin "getset_descriptor.__get__"))) (htk : PySem.W.takesIn K (.builtin "object.__class__") = some true)
      (hm : PySem.W.mroIn K C (.type "object") = some true) : TyOf K H (.ref a) (.ref C)
end
end L2
namespace L2
open PySem PySem.Spec PyProof.Rows
structure Room (k : Nat) (A : Around) : Prop where
  hd : A.handled = none
  dp : A.depth + 3 * k + 5 < recursionLimit
  un : A.units + 16 * k + 200 < cLine
  gd : A.guards = some []
theorem Room.mono {j k : Nat} {A : Around} (r : Room k A) (h : j ≤ k) : Room j A := ⟨r.hd, by have := r.dp; omega, by have := r.un; omega, r.gd⟩
theorem Room.deeper {k : Nat} {A : Around} (r : Room (k + 1) A) (env : Env) : Room k (A.deeper env) :=
  ⟨r.hd, by have := r.dp; show A.depth + 1 + 3 * k + 5 < _; omega, by have := r.un; show A.units + 3 + 16 * k + 200 < _; omega, r.gd⟩
theorem Room.in1 {k : Nat} {A : Around} (r : Room (k + 1) A) : Room k A.in1 :=
  ⟨r.hd, by have := r.dp; show A.depth + 3 * k + 5 < _; omega, by have := r.un; show A.units + 1 + 16 * k + 200 < _; omega, r.gd⟩
theorem Room.depth {k : Nat} {A : Around} (r : Room k A) : A.depth < recursionLimit := by have := r.dp; omega
theorem Room.units {k : Nat} {A : Around} (r : Room k A) : A.units + 64 < cLine := by have := r.un; omega
def tNil : TA := fun _ H Q => Q [] H
def tCons (ta : TE) (tr : TA) : TA := fun σ H Q => ta σ H fun x H1 => tr σ H1 fun xs H2 => Q (x :: xs) H2
section
variable {X : Cx} {e : Expr} {es : List Expr} {te : TE} {t : TA} {pos : Pos}
theorem pa_nil : PA X [] tNil := fun _ _ _ _ H Q I h => Calls.spliced_nil ⟨[], H, I, .nil, h⟩
theorem pa_cons (ha : PE X e te) (hr : PA X es t) (hs : starEach (e :: es) X.env = (false, eval e X.env) :: starEach es X.env := by rfl) : PA X (e :: es) (tCons te t) := by
  intro pos pins s σ H Q I h
  rw [hs]
  show wpAny _ _ (spliced ((false, eval e X.env) :: backTo pos (starEach es X.env))) _ _ s
  refine Calls.spliced_cons (thn (ha pins s σ H _ I h) fun u s1 ⟨x, H1, I1, r1, q1⟩ => ?_)
  exact thn (hr pos pins s1 σ H1 _ I1 q1) fun us s2 ⟨xs, H2, I2, r2, q2⟩ => ⟨x :: xs, H2, I2, .cons r1 r2, q2⟩
def tTup (t : TA) : TE := fun σ H Q => t σ H fun xs H1 => xs.length ≤ sizeLine ∧ ∀ p, H1 p = none → Q (.ref p) (upd H1 p (.tup xs))
def tLst (t : TA) : TE := fun σ H Q => t σ H fun xs H1 => xs.length ≤ sizeLine ∧ ∀ p, H1 p = none → Q (.ref p) (upd H1 p (.lst xs))
theorem pe_tup {x1} (h : PA X es t) : PE X (.Tuple es x1 pos) (tTup t) := by
  intro pins s σ H Q I hq
  refine wpAny_Tuple_spliced (thn (h pos pins s σ H _ I hq) fun us s1 ⟨xs, H1, I1, r, z, q⟩ => ⟨by rw [← r.length]; exact z, ?_⟩)
  have hf : H1 s1.heap.objs.size = none := I1.hok.fresh (Nat.le_refl _)
  refine ⟨.ref s1.heap.objs.size, upd H1 s1.heap.objs.size (.tup xs), I1.laid (t' := s1.toks) (fun b u e => Heap.get?_push_of_some _ e) (Nat.le_refl _) ?_, rfl, q _ hf⟩
  exact ⟨z, us, r, ⟨_, Heap.get?_push_size _ rfl, rfl, _, rfl⟩, _, Heap.get?_push_size _ rfl, rfl⟩
theorem pe_lst (h : PA X es t) : PE X (.List es pos) (tLst t) := by
  intro pins s σ H Q I hq
  refine wpAny_List_spliced (thn (h pos pins s σ H _ I hq) fun us s1 ⟨xs, H1, I1, r, z, q⟩ => ⟨by rw [← r.length]; exact z, ?_⟩)
  have hf : H1 s1.heap.objs.size = none := I1.hok.fresh (Nat.le_refl _)
  refine ⟨.ref s1.heap.objs.size, upd H1 s1.heap.objs.size (.lst xs), I1.laid (t' := s1.toks) (fun b u e => Heap.get?_push_of_some _ e) (Nat.le_refl _) ?_, rfl, q _ hf⟩
  exact ⟨z, us, 0, r, Heap.get?_push_size _ rfl⟩
end
abbrev Sp := List V → Hp → VK → XK → Prop
abbrev CXT := List Env → Hp → Shared → XK → Value → Shared → Prop
structure Env0 (P : Program) (w : World) (K : PySem.W.Frag) (mg : Str → Option Value) (base : Heap) (A : Around) (outer : List Env) (s : Shared) (H : Hp) : Prop where
  frames : A.frames = some outer
  mod : Mod K mg base
  bs : ∀ b o, base.get? b = some o → s.heap.get? b = some o ∧ H b = none
  bsz : base.objs.size ≤ s.heap.objs.size
  funs : s.heap.FunFrames base outer
  frf : ∀ b ∈ frs outer, H b = none
  hok : HOk P w H s.heap
  bare : AllBare s.gens
def CE (outer : List Env) (P : Program) (w : World) (H : Hp) (s : Shared) (Q : VK) (u : Value) (s' : Shared) : Prop :=
  ∃ v H', s'.os = s.os ∧ AllBare s'.gens ∧ Un (frs outer) [] H H' s.heap s'.heap ∧ HOk P w H' s'.heap ∧ RelV v u ∧ Q v H'
def CR (CX : CXT) (outer : List Env) (P : Program) (w : World) (H : Hp) (s : Shared) (Q : VK) (E : XK) (r : Result) (s' : Shared) : Prop :=
  match r with
  | .ok (.ret u) => CE outer P w H s Q u s'
  | .ok _ => False
  | .error e => CX outer H s E e s'
structure FnOk (P : Program) (w : World) (K : PySem.W.Frag) (mg : Str → Option Value) (base : Heap) (CX : CXT) (k : Nat) (f : Addr) (fd : FuncData) (ps : List Str) (sp : Sp) : Prop where
  len : ∀ vs H Q E, sp vs H Q E → vs.length = ps.length
  run : ∀ (A : Around) (outer : List Env) (s : Shared) (H : Hp) (args : Args) (us : List Value) (vs : List V) (Q : VK) (E : XK), Room k A → Env0 P w K mg base A outer s H → BindsTo s fd args (ps.zip us) → Vals vs us → sp vs H Q E →
    codeAny (model P w) A (.call (.ref f) args) (CR CX outer P w H s Q E) s
theorem FnOk.mono {P : Program} {w : World} {K : PySem.W.Frag} {mg : Str → Option Value} {base : Heap} {CX : CXT} {j k : Nat} {f : Addr} {fd : FuncData} {ps : List Str} {sp : Sp} (F : FnOk P w K mg base CX j f fd ps sp) (h : j ≤ k) :
    FnOk P w K mg base CX k f fd ps sp := ⟨F.len, fun A outer s H args us vs Q E hr => F.run A outer s H args us vs Q E (hr.mono h)⟩
theorem Env0.in1 {P : Program} {w : World} {K : PySem.W.Frag} {mg : Str → Option Value} {base : Heap} {A : Around} {outer : List Env} {s : Shared} {H : Hp} (e : Env0 P w K mg base A outer s H) :
    Env0 P w K mg base A.in1 outer s H := ⟨e.frames, e.mod, e.bs, e.bsz, e.funs, e.frf, e.hok, e.bare⟩
section
variable {X : Cx} {pins : List (Addr × Obj)} {σ : St} {H : Hp} {s s' : Shared}
theorem Inv.env0 (I : Inv X pins σ H s) : Env0 X.prog X.w X.K X.mg X.base X.A X.stack s H :=
  ⟨I.ok.frames, I.ok.mod, I.bs, Nat.le_trans I.ok.bsz I.sz, I.stack, I.stkFree, I.hok, I.bare⟩
theorem Inv.after {Q : VK} {u : Value} (I : Inv X pins σ H s) (h : CE X.stack X.prog X.w H s Q u s') : EP X pins σ Q u s' := by
  obtain ⟨v, H', os, bare, un, hok, r, q⟩ := h
  obtain ⟨hh, g, d, t, os'⟩ := s'
  obtain rfl : os' = s.os := os
  exact ⟨v, H', I.call (h' := hh) (g' := g) (d' := d) (t' := t) (ch := []) un hok bare (fun b z => absurd z (by simp)), r, q⟩
end
def tCall (sp : Sp) (dvs : List V) (E : XK) (t : TA) : TE := fun σ H Q => t σ H fun vs H1 => sp (vs ++ dvs) H1 Q E
def Binds (K : PySem.W.Frag) (fd : FuncData) (ps : List Str) (ds : List Value) : Prop :=
  ∀ (s : Shared) (us : List Value), K.In s.heap → (us ++ ds).length = ps.length → BindsTo s fd ⟨us, []⟩ (ps.zip (us ++ ds))
theorem Binds.all {K : PySem.W.Frag} {fd : FuncData} {ps : List Str} (h : ∀ us : List Value, us.length = ps.length → bindArgs fd ⟨us, []⟩ = pure (ps.zip us)) : Binds K fd ps [] := fun s us _ hl => by
  rw [List.append_nil] at hl ⊢
  exact .of_eq (h us hl)
def Passes (CX : CXT) (X : Cx) (E : XK) : Prop := ∀ (pins : List (Addr × Obj)) (σ : St) (H : Hp) (s : Shared) (e : Value) (s' : Shared), Inv X pins σ H s → CX X.stack H s E e s' → X.xe e s'
section
variable {X : Cx} {CX : CXT} {k : Nat} {f C : Addr} {fd : FuncData} {ps : List Str} {sp : Sp} {dvs : List V} {ds : List Value} {E : XK} {x m : Str} {p pos apos : Pos} {e o : Expr} {es : List Expr} {ta : TE} {t : TA}
theorem run_fn {pins : List (Addr × Obj)} {σ : St} {H : Hp} {s : Shared} {Q : VK} {us : List Value} {vs : List V} (F : FnOk X.prog X.w X.K X.mg X.base CX k f fd ps sp) (hr : Room k X.A) (hb : Binds X.K fd ps ds) (hd : Vals dvs ds) (hx : Passes CX X E)
    (I : Inv X pins σ H s) (r : Vals vs us) (h : sp (vs ++ dvs) H Q E) : wpAny (model X.prog X.w) X.A (call (.ref f) us) (EP X pins σ Q) X.xe s := by
  have r2 : Vals (vs ++ dvs) (us ++ ds) := r.append hd
  have hl : (us ++ ds).length = ps.length := by rw [← r2.length]; exact F.len _ _ _ _ h
  refine wpAny_call (codeAny_mono (F.run X.A X.stack s H ⟨us, []⟩ (us ++ ds) (vs ++ dvs) Q E hr I.env0 (hb s us I.kIn hl) r2 h) fun r s' hq => ?_)
  cases r with
  | error e => exact hx pins σ H s e s' I hq
  | ok fl =>
    cases fl with
    | ret u => exact I.after hq
    | next => exact False.elim hq
    | brk => exact False.elim hq
    | cont => exact False.elim hq
theorem pe_call (F : FnOk X.prog X.w X.K X.mg X.base CX k f fd ps sp) (hr : Room k X.A) (hg : Gl X x) (hm : X.mg x = some (.ref f)) (hk : PySem.W.keepIn X.K (.ref f) = true) (hb : Binds X.K fd ps ds) (hd : Vals dvs ds) (hx : Passes CX X E)
    (ha : PA X (e :: es) t) (hdb : (x == ("__debug__" : Str)) = false := by decide) (he : starEach (e :: es) X.env = (false, eval e X.env) :: starEach es X.env := by rfl) (hpl : (backTo pos (starEach es X.env)).any (·.1) = false := by rfl) :
    PE X (.Call (.Name x p) (e :: es) [] pos) (tCall sp dvs E t) := by
  intro pins s σ H Q I h
  refine wpAny_Call_Name_kw (ld_glob I hg hm ?_ hdb)
  refine PySem.W.callWith_K (h₀ := X.base) I.ok.mod.kin hk (thn (ha pos pins s σ H _ I h) fun us s1 ⟨vs, H1, I1, r, q⟩ => ⟨I1.kIn, ?_⟩) he hpl
  exact run_fn F hr hb hd hx I1 r q
structure Mk (K : PySem.W.Frag) (C f : Addr) : Prop where
  makes : PySem.W.makesIn K C = true
  init : PySem.W.findIn K (.ref C) "__init__" = some (some (.ref f))
  fn : PySem.W.isFn K (.ref f) = true
  kp : PySem.W.keepIn K (.ref C) = true
end
def PK (X : Cx) (kws : List Keyword) (t : TA) : Prop :=
  ∀ (pos : Pos) (pins : List (Addr × Obj)) (s : Shared) (σ : St) (H : Hp) (Q : List V → Hp → Prop), Inv X pins σ H s → t σ H Q → wpAny (model X.prog X.w) X.A (evalAll ((backToKw pos (keywordEach kws X.env)).map (·.2))) (AP X pins σ Q) X.xe s
section
variable {X : Cx} {CX : CXT} {k : Nat} {f C : Addr} {fd : FuncData} {ps ks : List Str} {sp : Sp} {E : XK} {x m : Str} {p pos apos kpos : Pos} {e o : Expr} {es : List Expr} {kws : List Keyword} {te ta : TE} {t tk : TA} {nm : Option Str}
theorem pk_nil : PK X [] tNil := fun _ _ _ _ H Q I h => wpAny_evalAll_nil ⟨[], H, I, .nil, h⟩
theorem pk_cons (ha : PE X e te) (hr : PK X kws t) : PK X (⟨nm, e, kpos⟩ :: kws) (tCons te t) := by
  intro pos pins s σ H Q I h
  show wpAny _ _ (evalAll ((do let v ← eval e X.env; standAt pos; pure v) :: (backToKw pos (keywordEach kws X.env)).map (·.2))) _ _ s
  refine wpAny_evalAll_cons (wpAny_bind (thn (ha pins s σ H _ I h) fun u s1 ⟨x, H1, I1, r1, q1⟩ => wpAny_bind (wpAny_standAt (wpAny_pure ?_))))
  exact thn (hr pos pins s1 σ H1 _ I1 q1) fun us s2 ⟨xs, H2, I2, r2, q2⟩ => ⟨x :: xs, H2, I2, .cons r1 r2, q2⟩
structure KBinds (K : PySem.W.Frag) (fd : FuncData) (ps ks : List Str) (g : List Value → List Value → List Value) (gV : List V → List V → List V) : Prop where
  to : ∀ (s : Shared) (us ws : List Value), K.In s.heap → (g us ws).length = ps.length → BindsTo s fd ⟨us, ks.zip ws⟩ (ps.zip (g us ws))
  rel : ∀ {vs : List V} {us : List Value} {zs : List V} {ws : List Value}, Vals vs us → Vals zs ws → Vals (gV vs zs) (g us ws)
variable {g : List Value → List Value → List Value} {gV : List V → List V → List V}
end
structure FnScope (N P : List Str) (sc : Scope) : Prop where
  kind : sc.kind = .function
  co : sc.isCoroutine = false
  gen : sc.isGenerator = false
  nd : N.Nodup
  pre : N.take P.length = P
  par : ∀ x ∈ P, sc.names.lookup x = some .local ∨ sc.names.lookup x = some .cell
  nofree : ∀ y ∈ sc.names, y.2 ≠ .free
theorem bindL_out {kindOf : Str → Option NameKind} {x : Str} : ∀ {binds : List (Str × Value)} {m : Str → Option Value}, (∀ v, (x, v) ∉ binds) → bindL kindOf binds m x = m x
  | [], _, _ => rfl
  | (n, v) :: r, m, h => by
    unfold bindL
    rw [bindL_out fun w hw => h w (List.mem_cons_of_mem _ hw)]
    split
    · have : x ≠ n := by rintro rfl; exact h v List.mem_cons_self
      simp [this]
    · rfl
theorem bindC_out {kindOf : Str → Option NameKind} {x : Str} : ∀ {binds : List (Str × Value)} {m : Str → Option Value}, (∀ v, (x, v) ∉ binds) → bindC kindOf binds m x = m x
  | [], _, _ => rfl
  | (n, v) :: r, m, h => by
    unfold bindC
    rw [bindC_out fun w hw => h w (List.mem_cons_of_mem _ hw)]
    split
    · rfl
    · have : x ≠ n := by rintro rfl; exact h v List.mem_cons_self
      simp [this]
theorem bindL_get {kindOf : Str → Option NameKind} {x : Str} {v : Value} : ∀ {P : List Str} {vs : List Value} {i : Nat} {m : Str → Option Value}, P.Nodup → P[i]? = some x → vs[i]? = some v → kindOf x = some .local →
    bindL kindOf (P.zip vs) m x = some v
  | [], _, _, _, _, h, _, _ => by simp at h
  | _ :: _, [], _, _, _, _, h, _ => by simp at h
  | p :: P, w :: vs, 0, m, nd, h1, h2, hk => by
    simp at h1 h2; subst h1; subst h2
    show bindL kindOf ((p, w) :: P.zip vs) m p = _
    unfold bindL
    rw [bindL_out fun v hv => (List.nodup_cons.mp nd).1 (List.of_mem_zip hv).1, if_pos hk]
    simp
  | p :: P, w :: vs, i + 1, m, nd, h1, h2, hk => by
    show bindL kindOf ((p, w) :: P.zip vs) m x = _
    unfold bindL
    exact bindL_get (i := i) (List.nodup_cons.mp nd).2 (by simpa using h1) (by simpa using h2) hk
theorem bindC_get {kindOf : Str → Option NameKind} {x : Str} {v : Value} : ∀ {P : List Str} {vs : List Value} {i : Nat} {m : Str → Option Value}, P.Nodup → P[i]? = some x → vs[i]? = some v → kindOf x ≠ some .local →
    bindC kindOf (P.zip vs) m x = some v
  | [], _, _, _, _, h, _, _ => by simp at h
  | _ :: _, [], _, _, _, _, h, _ => by simp at h
  | p :: P, w :: vs, 0, m, nd, h1, h2, hk => by
    simp at h1 h2; subst h1; subst h2
    show bindC kindOf ((p, w) :: P.zip vs) m p = _
    unfold bindC
    rw [bindC_out fun v hv => (List.nodup_cons.mp nd).1 (List.of_mem_zip hv).1, if_neg hk]
    simp
  | p :: P, w :: vs, i + 1, m, nd, h1, h2, hk => by
    show bindC kindOf ((p, w) :: P.zip vs) m x = _
    unfold bindC
    exact bindC_get (i := i) (List.nodup_cons.mp nd).2 (by simpa using h1) (by simpa using h2) hk
def start (N : List Str) (vs : List V) : St := vs.map some ++ List.replicate (N.length - vs.length) none
def cxOf (CX : CXT) (P : Program) (w : World) (K : PySem.W.Frag) (mg : Str → Option Value) (base : Heap) (N : List Str) (qual : Str) (scope : Scope) (f : Addr) (cd : Value) (A : Around) (outer : List Env) (s : Shared) (H : Hp) (E : XK) : Cx where
  prog := P
  w := w
  K := K
  mg := mg
  base := base
  A := A.deeper (envOfC qual scope s.heap.objs.size f cd)
  N := N
  s_0 := s
  H_0 := H
  env := envOfC qual scope s.heap.objs.size f cd
  outer := outer
  stack := envOfC qual scope s.heap.objs.size f cd :: outer
  ex := []
  calm := true
  fn := fun _ => true
  pn := []
  xe := fun e s' => wpAny (model P w) (A.deeper (envOfC qual scope s.heap.objs.size f cd)) (leaving (envOfC qual scope s.heap.objs.size f cd) e) (fun _ s'' => CX outer H s E e s'') (fun e' s'' => CX outer H s E e' s'') s'
theorem cell_has {sc : Scope} {n : Nat} {x : Str} (h : sc.names.lookup x = some .cell) : ∃ c, (cellsFrom n sc.names []).lookup x = some c := by
  have q := PySem.W.cellsFrom_some sc.names n [] (.inl h)
  exact Option.isSome_iff_exists.mp q
theorem inv_start {CX : CXT} {P : Program} {w : World} {K : PySem.W.Frag} {mg : Str → Option Value} {base : Heap} {N ps : List Str} {qual : Str} {scope : Scope} {f : Addr} {cd : Value} {A : Around} {outer : List Env} {s s1 : Shared} {H : Hp} {E : XK} {us : List Value} {vs : List V}
    (S : FnScope N ps scope) (hd : A.handled = none) (e0 : Env0 P w K mg base A outer s H) (hl : vs.length = ps.length) (r : Vals vs us)
    (x : InCallC s s.heap.objs.size (bindL (envOfC qual scope s.heap.objs.size f cd).kindOf (ps.zip us) fun _ => none) (cellsFrom (s.heap.objs.size + 1) scope.names []) (bindC (envOfC qual scope s.heap.objs.size f cd).kindOf (ps.zip us) fun _ => none) s1) :
    Inv (cxOf CX P w K mg base N qual scope f cd A outer s H E) [] (start N vs) H s1 := by
  have hpl : ps.length ≤ N.length := by have := congrArg List.length S.pre; rw [List.length_take] at this; omega
  obtain ⟨h1, tk, rfl, hk⟩ := x.done
  have noA : ∀ b : Addr, b ∉ (cxOf CX P w K mg base N qual scope f cd A outer s H E).ex := fun b z => absurd (show b ∈ ([] : List Addr) from z) (by simp)
  refine ⟨⟨e0.mod, S.kind, rfl, rfl, Nat.le_refl _, fun y z c h1 h2 => ?_, fun y hy => ?_, fun y c _ h => ?_, fun _ => hd, Around.frames_deeper e0.frames, .inr ⟨rfl, rfl⟩, fun b z => absurd z (noA b), e0.bs, e0.bsz, fun b _ _ => noA b, fun b z => absurd z (noA b), e0.funs, e0.frf⟩,
    rfl, e0.bare, Un.kept hk, ⟨_, x.toInCall.ns, fun i y v h1 h2 h3 => ?_⟩, fun y c h => ⟨_, x.cell y c h⟩, e0.hok.fresh (Nat.le_refl _), fun y c h => ?_, fun p hp => absurd (show p ∈ ([] : List (Addr × Obj)) from hp) (by simp), e0.hok.kept hk, ?_⟩
  · exact name_of_addr x.apart (PySem.mem_of_lookup h1) (PySem.mem_of_lookup h2)
  · have hy : scope.names.lookup y = some .cell ∨ scope.names.lookup y = some .free := hy
    rcases hy with hy | hy
    · exact cell_has hy
    · exact absurd rfl (S.nofree _ (PySem.mem_of_lookup hy))
  · exact Nat.le_of_lt (x.above y c (PySem.mem_of_lookup h))
  · have hi : i < vs.length := by
      unfold start at h2
      by_cases hi : i < vs.length
      · exact hi
      · rw [List.getElem?_append_right (by simpa using hi)] at h2
        rw [List.getElem?_replicate] at h2
        split at h2 <;> cases h2
    have ha : vs[i]? = some v := by
      unfold start at h2
      rw [List.getElem?_append_left (by simpa using hi), List.getElem?_map] at h2
      cases e : vs[i]? with
      | none => rw [e] at h2; cases h2
      | some a => rw [e] at h2; cases h2; rfl
    obtain ⟨u, hu, rv⟩ := r.get ha
    have hp : ps[i]? = some y := by
      rw [← S.pre, List.getElem?_take_of_lt (by omega)]; exact h1
    have ndP : ps.Nodup := by rw [← S.pre]; exact S.nd.sublist (List.take_sublist _ _)
    refine ⟨u, rv, ?_⟩
    rcases S.par y (List.mem_of_getElem? hp) with k | k
    · exact .inl ⟨k, bindL_get ndP hp hu k⟩
    · obtain ⟨c, e⟩ := cell_has (n := s.heap.objs.size + 1) k
      refine .inr ⟨.inl k, c, e, ?_⟩
      have q := x.cell y c e
      rw [bindC_get ndP hp hu (by show scope.names.lookup y ≠ _; rw [k]; decide)] at q
      exact q
  · exact e0.hok.fresh (Nat.le_of_lt (x.above y c (PySem.mem_of_lookup h)))
  · unfold start
    show _ = N.length
    rw [List.length_append, List.length_map, List.length_replicate]
    omega
theorem fn_of {CX : CXT} {P : Program} {w : World} {K : PySem.W.Frag} {mg : Str → Option Value} {base : Heap} {k : Nat} {f : Addr} {name qual : Str} {params : Arguments} {body : List Stmt} {scope : Scope} {dV kV doc pm cdv ct oc : Value} {an od : Option Addr}
    {osl : Array (Option Value)} {N ps : List Str} {sp : Sp} (lk : K.lookup f = some ⟨oc, od, .func (PySem.W.fnOf name qual params body scope dV kV doc pm an cdv ct), osl⟩) (hcd : PySem.W.codeIn K cdv qual = true) (S : FnScope N ps scope)
    (len : ∀ vs H Q E, sp vs H Q E → vs.length = ps.length)
    (hbody : ∀ (A : Around) (outer : List Env) (s : Shared) (H : Hp) (vs : List V) (Q : VK) (E : XK), Room k (A.deeper (envOfC qual scope s.heap.objs.size f cdv)) → sp vs H Q E →
      ∃ t, PSs (cxOf CX P w K mg base N qual scope f cdv A outer s H E) body t ∧ t { nx := fun _ H' => Q .non H', rt := Q } (start N vs) H) :
    FnOk P w K mg base CX (k + 1) f (PySem.W.fnOf name qual params body scope dV kV doc pm an cdv ct) ps sp := by
  refine ⟨len, fun A outer s H args us vs Q E hr e0 hb r hsp => ?_⟩
  have hl := len _ _ _ _ hsp
  have KX : K.In s.heap := e0.mod.kin.keeps fun b o e => (e0.bs b o e).1
  have lim : s.heap.NoLimit := e0.mod.nolimit.keeps fun b o e => (e0.bs b o e).1
  have hkind : ∀ y ∈ ps.zip us, scope.names.lookup y.1 = some .local ∨ (scope.names.lookup y.1 = some .cell ∧ ((cellsFrom (s.heap.objs.size + 1) scope.names []).lookup y.1).isSome = true) := fun ⟨n, v⟩ hy => by
    rcases S.par n (List.of_mem_zip hy).1 with q | q
    · exact .inl q
    · exact .inr ⟨q, PySem.W.cellsFrom_some _ _ _ (.inl q)⟩
  refine codeAny_call_function hr.depth (KX _ _ lk) rfl S.co S.gen rfl (PySem.W.codeRec_of KX hcd) (hb _ _ _ _ ?_)
  refine wpAny_newFunctionEnv_cells S.kind hkind fun env he s1 x => ?_
  subst he
  refine ⟨lim.keeps x.toInCall.keep, codeAny_func ?_⟩
  obtain ⟨t, ht, hq⟩ := hbody A outer s H vs Q E (hr.deeper _) hsp
  have I : Inv (cxOf CX P w K mg base N qual scope f cdv A outer s H E) [] (start N vs) H s1 := inv_start S hr.hd e0 hl r x
  refine wpAny_mono (ht [] s1 (start N vs) H _ I hq) (fun fl s' hs => ?_) fun e s' hs => hs
  have fin : ∀ {σ' : St} {H' : Hp} {v : V} {u : Value}, Inv (cxOf CX P w K mg base N qual scope f cdv A outer s H E) [] σ' H' s' → RelV v u → Q v H' → CE outer P w H s Q u s' :=
    fun {σ' H' v u} J rv q => ⟨v, H', J.os, J.bare, J.base, J.hok, rv, q⟩
  cases fl with
  | ret u =>
    obtain ⟨v, σ', H', J, rv, q⟩ := hs
    exact fin J rv q
  | next =>
    obtain ⟨σ', H', J, q⟩ := hs
    exact fin (v := V.non) (u := Value.none) J rfl q
  | brk =>
    obtain ⟨_, _, _, q⟩ := hs
    exact False.elim q
  | cont =>
    obtain ⟨_, _, _, q⟩ := hs
    exact False.elim q
end L2
namespace L2
open PySem PySem.Spec PyProof.Rows
section
variable {X : Cx} {x : Str} {p pos : Pos} {e : Expr} {es : List Expr} {t : TA} {id T : String} {r : List V → Hp → VK → Prop}
def tCB (r : List V → Hp → VK → Prop) (t : TA) : TE := fun σ H Q => t σ H fun vs H1 => r vs H1 Q
theorem pe_callB (hc : CallR X (.builtin id) r) (hg : Gl X x) (hm : X.mg x = none) (hv : bootBuiltins x = some (.builtin id)) (ha : PA X (e :: es) t) (hn : x ≠ "__name__" := by decide) (hdb : (x == ("__debug__" : Str)) = false := by decide)
    (he : starEach (e :: es) X.env = (false, eval e X.env) :: starEach es X.env := by rfl) (hpl : (backTo pos (starEach es X.env)).any (·.1) = false := by rfl) : PE X (.Call (.Name x p) (e :: es) [] pos) (tCB r t) := by
  intro pins s σ H Q I h
  refine wpAny_Call_Name_kw (ld_blt I hg hm hv ?_ hn hdb)
  exact PyProof.Rows.callWith_builtin1 (thn (ha pos pins s σ H _ I h) fun us s1 ⟨vs, H1, I1, r1, q1⟩ => hc pins s1 σ H1 vs us Q I1 r1 q1) he hpl
theorem pe_callTy (hc : CallR X (.type T) r) (hg : Gl X x) (hm : X.mg x = none) (hv : bootBuiltins x = some (.type T)) (ha : PA X (e :: es) t) (hn : x ≠ "__name__" := by decide) (hdb : (x == ("__debug__" : Str)) = false := by decide)
    (he : starEach (e :: es) X.env = (false, eval e X.env) :: starEach es X.env := by rfl) (hpl : (backTo pos (starEach es X.env)).any (·.1) = false := by rfl) : PE X (.Call (.Name x p) (e :: es) [] pos) (tCB r t) := by
  intro pins s σ H Q I h
  refine wpAny_Call_Name_kw (ld_blt I hg hm hv ?_ hn hdb)
  exact PyProof.Rows.callWith_type1 (thn (ha pos pins s σ H _ I h) fun us s1 ⟨vs, H1, I1, r1, q1⟩ => hc pins s1 σ H1 vs us Q I1 r1 q1) he hpl
end
end L2
namespace HT
open PySem PyProof.Rows
section
open PySem.SeqAt
open PySem.AutoSeq1 (wpAny_loadPart')
open PySem.MeetsSeq PySem.MeetsSeq2 PySem.MeetsSeq3
end
section
variable {prog : Program} {w : World} {A : Around} {E : Value → Shared → Prop} {s : Shared}
theorem cat_tup {t b : Addr} {vs ws : List Value} {Q : Value → Shared → Prop} (ht : IsTup s.heap t vs.toArray) (hb : IsTup s.heap b ws.toArray) (hv : vs ≠ [])
    (h1 : ws = [] → Q (.ref t) s) (h2 : ws ≠ [] → Q (.ref s.heap.objs.size) { s with heap := s.heap.push { cls := .type "tuple", data := .seq (vs ++ ws).toArray } })
    (hsz : vs.length + ws.length ≤ sizeLine) : wpAny (model prog w) A (binaryOp .Add (.ref t) (.ref b)) Q E s := by
  obtain ⟨⟨cls, dd, data, sl⟩, ho, hc, n, hd⟩ := id ht
  obtain ⟨⟨cls2, dd2, data2, sl2⟩, ho2, hc2, n2, hd2⟩ := id hb
  simp only at hc hd hc2 hd2
  subst hc hd hc2 hd2
  have e : vs.toArray ++ ws.toArray = (vs ++ ws).toArray := by simp
  by_cases hw : ws = []
  · exact concat_meets ⟨_, ho, rfl⟩ ⟨_, ho2, rfl⟩ noFill_tuple_add seq_tuple_add PySem.F.slot_tuple_add PySem.F.entry_tuple_add (PySem.F.args_tuple_add_2 _ _)
      (tuple_addW1 t b vs.toArray ws.toArray n n2 dd dd2 sl sl2 (by simpa using hv) (by simp [hw])) ⟨ho, ho2, h1 hw⟩
  · refine concat_meets ⟨_, ho, rfl⟩ ⟨_, ho2, rfl⟩ noFill_tuple_add seq_tuple_add PySem.F.slot_tuple_add PySem.F.entry_tuple_add (PySem.F.args_tuple_add_2 _ _)
      (tuple_addW2 t b vs.toArray ws.toArray n n2 dd dd2 sl sl2 (by simpa using hv) (by simpa using hw) (by rw [List.size_toArray, List.size_toArray]; exact hsz)) ⟨ho, ho2, ?_⟩
    rw [e]
    exact h2 hw
def sIx (n d : Nat) : Option Int → Nat
  | none => d
  | some v => if v < 0 then (v + (n : Int)).toNat else min v.toNat n
theorem sIx_none (n d : Nat) : sIx n d none = d := rfl
theorem sIx_nat (n d k : Nat) : sIx n d (some (k : Int)) = min k n := by
  show (if (k : Int) < 0 then ((k : Int) + (n : Int)).toNat else min (k : Int).toNat n) = min k n
  rw [if_neg (by omega), Int.toNat_natCast]
theorem sIx_le (n d : Nat) (hd : d ≤ n) (o : Option Int) : sIx n d o ≤ n := by
  cases o with
  | none => exact hd
  | some v =>
    show (if v < 0 then (v + (n : Int)).toNat else min v.toNat n) ≤ n
    by_cases hv : v < 0
    · rw [if_pos hv]; omega
    · rw [if_neg hv]; exact Nat.min_le_right _ _
theorem clip_eq (v : Int) (n d : Nat) : (if v < 0 then max (v + (n : Int)) 0 else min v (n : Int)) = ((sIx n d (some v) : Nat) : Int) := by
  show (if v < 0 then max (v + (n : Int)) 0 else min v (n : Int)) = (((if v < 0 then (v + (n : Int)).toNat else min v.toNat n) : Nat) : Int)
  by_cases hv : v < 0
  · simp only [if_pos hv]; omega
  · simp only [if_neg hv]; omega
theorem adjust_gen (lo hi : Option Int) (n : Nat) : Builtin.Slice.sliceAdjust lo hi 1 (n : Int) = (((sIx n 0 lo : Nat) : Int), ((sIx n n hi : Nat) : Int)) := by
  have h1 : ¬ ((1 : Int) < 0) := by omega
  unfold Builtin.Slice.sliceAdjust
  simp only [h1, if_false]
  refine Prod.ext ?_ ?_
  · cases lo with
    | none => rfl
    | some v => exact clip_eq v n 0
  · cases hi with
    | none => rfl
    | some v => exact clip_eq v n n
theorem places_gen (i j : Nat) : Builtin.Slice.slicePlaces (i : Int) (j : Int) 1 = j - i := by
  unfold Builtin.Slice.slicePlaces
  have h1 : (1 : Int) > 0 := by omega
  simp only [h1, if_true, Int.ediv_one]
  split <;> omega
theorem slicePart_ {v : Value} {o : Option Int} {Q : Option Int → Shared → Prop} (p : IsPart v o) (h : Q o s) : wpAny (model prog w) A (Builtin.Slice.slicePartIndex v) Q E s := by
  cases p with
  | none => exact slicePart_none h
  | int i t => exact slicePart_int h
theorem sliceApplied_gen {sl : Addr} {vl vu : Value} {lo hi : Option Int} {n : Nat} {Q : Int × Int × Nat → Shared → Prop} (hs : s.heap.IsSliceOf sl vl vu .none) (pl : IsPart vl lo) (pu : IsPart vu hi)
    (h : Q (((sIx n 0 lo : Nat) : Int), 1, sIx n n hi - sIx n 0 lo) s) : wpAny (model prog w) A (Builtin.Slice.sliceApplied (.ref sl) (pure (n : Int))) Q E s := by
  obtain ⟨os, hos, hcs, hds⟩ := id hs
  unfold Builtin.Slice.sliceApplied Builtin.Slice.sliceFields
  refine wpAny_bind (wpAny_bind (wpAny_field hos hds (x := vl) rfl (wpAny_bind (wpAny_field hos hds (x := vu) rfl (wpAny_bind (wpAny_field hos hds (x := .none) rfl (wpAny_pure ?_)))))))
  refine wpAny_bind (slicePart_none ?_)
  show wpAny _ _ (if ((1 : Int) == 0) = true then _ else _) _ _ s
  rw [if_neg (by decide)]
  refine wpAny_bind (slicePart_ pl (wpAny_bind (slicePart_ pu (wpAny_bind (wpAny_pure ?_)))))
  show wpAny _ _ (match Builtin.Slice.sliceAdjust lo hi 1 (n : Int) with | (lo, hi) => pure (lo, (1 : Int), Builtin.Slice.slicePlaces lo hi 1)) _ _ s
  rw [adjust_gen lo hi n]
  show wpAny _ _ (pure (((sIx n 0 lo : Nat) : Int), (1 : Int), Builtin.Slice.slicePlaces ((sIx n 0 lo : Nat) : Int) ((sIx n n hi : Nat) : Int) 1)) _ _ s
  rw [places_gen]
  exact wpAny_pure h
theorem pick_gen (xs : Array Value) (i k : Nat) : ((List.range k).filterMap fun (m : Nat) => xs[((i : Int) + (m : Int) * 1).toNat]?).toArray = ((xs.toList.drop i).take k).toArray := by
  have e : (fun (m : Nat) => xs[((i : Int) + (m : Int) * 1).toNat]?) = fun m => xs[i + m]? := by
    funext m
    have : ((i : Int) + (m : Int) * 1).toNat = i + m := by omega
    rw [this]
  rw [e]
  have := pick_run xs i k
  rw [List.filterMap_map] at this
  have e2 : ((fun x => xs[x]?) ∘ fun x => i + x) = fun m => xs[i + m]? := rfl
  rw [e2] at this
  rw [this]
theorem getItem_tuple_cut {t sl : Addr} {items : Array Value} {vl vu : Value} {lo hi : Option Int} {Q : Value → Shared → Prop} (ht : IsTup s.heap t items) (hs : s.heap.IsSliceOf sl vl vu .none) (pl : IsPart vl lo) (pu : IsPart vu hi)
    (hw : ¬ (sIx items.size 0 lo = 0 ∧ sIx items.size items.size hi = items.size))
    (h : Q (.ref s.heap.objs.size) { s with heap := s.heap.push { cls := .type "tuple", data := .seq ((items.toList.drop (sIx items.size 0 lo)).take (sIx items.size items.size hi - sIx items.size 0 lo)).toArray } })
    (hsz : items.size ≤ sizeLine) : wpAny (model prog w) A (getItem (.ref t) (.ref sl)) Q E s := by
  have htake : sizeOk (.seq ((items.toList.drop (sIx items.size 0 lo)).take (sIx items.size items.size hi - sIx items.size 0 lo)).toArray) := by
    show ((items.toList.drop (sIx items.size 0 lo)).take (sIx items.size items.size hi - sIx items.size 0 lo)).toArray.size ≤ sizeLine
    rw [List.size_toArray, List.length_take, List.length_drop, Array.length_toList]
    omega
  have hj : sIx items.size items.size hi ≤ items.size := sIx_le _ _ (Nat.le_refl _) hi
  obtain ⟨os, hos, hcs, hds⟩ := id hs
  have hTs : s.TypeIs (.ref sl) "slice" := ⟨os, hos, hcs⟩
  unfold getItem
  try with_reducible refine wpAny_holding ?_
  first | refine wpAny_bind (wpAny_pure ?_) | skip
  refine wpAny_bind (wpAny_sequenceKey ht.typeIs (by decide) ?_)
  refine wpAny_bind (wpAny_callSpecial?_slot (name := Str.ofString "__getitem__") ht.typeIs PyProof.Rows.slot_tuple_getitem
    (wpAny_call_entry PyProof.Rows.slot_tuple_getitem ht.typeIs entry_tuple_getitem ?_ (args_tuple_getitem _ _)))
  show wpAny _ _ (Builtin.Tuple.tupleItemsOf (.ref t) >>= _) _ _ s
  refine wpAny_bind (tupleItemsOf_ ht ?_)
  refine wpAny_bind (wpAny_typeOf hTs ?_)
  rw [if_pos (by decide)]
  refine wpAny_bind (sliceApplied_gen hs pl pu ?_)
  have hno : ¬ ((((sIx items.size 0 lo : Nat) : Int) == 0 && (1 : Int) == 1 && (sIx items.size items.size hi - sIx items.size 0 lo) == items.size) = true) := by
    intro q
    rw [Bool.and_eq_true, Bool.and_eq_true] at q
    have q1 : ((sIx items.size 0 lo : Nat) : Int) = 0 := eq_of_beq q.1.1
    have q2 : sIx items.size items.size hi - sIx items.size 0 lo = items.size := eq_of_beq q.2
    exact hw ⟨by omega, by omega⟩
  show wpAny _ _ (if (((sIx items.size 0 lo : Nat) : Int) == 0 && (1 : Int) == 1 && (sIx items.size items.size hi - sIx items.size 0 lo) == items.size) = true then _ else _) _ _ s
  rw [if_neg hno, pick_gen]
  first
    | exact wpAny_bind (m := Builtin.Tuple.tupleExact _) (wpAny_newObj_type (wpAny_pure ⟨_, rfl, wpAny_pure h⟩) htake)
    | exact wpAny_bind (m := Builtin.Tuple.tupleExact _) (wpAny_newObj_type (wpAny_bind (wpAny_pure (wpAny_pure ⟨_, rfl, wpAny_pure h⟩))) htake)
    | exact wpAny_bind (wpAny_bind (m := Builtin.Tuple.tupleExact _) (wpAny_newObj_type (wpAny_pure (wpAny_pure ⟨_, rfl, wpAny_pure h⟩)) htake))
    | exact wpAny_bind (wpAny_bind (m := Builtin.Tuple.tupleExact _) (wpAny_newObj_type (wpAny_pure ⟨_, rfl, wpAny_pure h⟩) htake))
end
end HT
namespace L2
open PySem PySem.Spec PyProof.Rows
abbrev TO := St → Hp → (Option Int → Hp → Prop) → Prop
def PO (X : Cx) (e : Option Expr) (t : TO) : Prop :=
  ∀ (pins : List (Addr × Obj)) (s : Shared) (σ : St) (H : Hp) (Q : Option Int → Hp → Prop), Inv X pins σ H s → t σ H Q →
    wpAny (model X.prog X.w) X.A (evalPart e X.env) (fun u s' => ∃ o H', Inv X pins σ H' s' ∧ IsPart u o ∧ Q o H') X.xe s
def tNoPart : TO := fun _ H Q => Q none H
def tPart (t : TE) : TO := fun σ H Q => t σ H fun x H1 => ∃ i, x = .int i ∧ Q (some i) H1
section
variable {X : Cx} {e : Expr} {te : TE} {lo hi : Option Expr} {tl th : TO} {pos p2 : Pos}
theorem po_none : PO X none tNoPart := by
  intro pins s σ H Q I h
  rw [evalPart_none]
  exact wpAny_pure ⟨none, H, I, .none, h⟩
theorem po_some (h : PE X e te) : PO X (some e) (tPart te) := by
  intro pins s σ H Q I hw
  rw [evalPart_some]
  refine thn (h pins s σ H _ I hw) fun u s1 ⟨x, H1, I1, r1, q1⟩ => ?_
  obtain ⟨i, rfl, q⟩ := q1
  obtain ⟨t, rfl⟩ := r1
  exact ⟨some i, H1, I1, .int i t, q⟩
def SlR (X : Cx) (r : V → Option Int → Option Int → Hp → VK → Prop) : Prop :=
  ∀ (pins : List (Addr × Obj)) (s : Shared) (σ : St) (H : Hp) (x : V) (v vl vu : Value) (lo hi : Option Int) (sl : Addr) (Q : VK), Inv X pins σ H s → RelV x v → s.heap.IsSliceOf sl vl vu .none → IsPart vl lo → IsPart vu hi → r x lo hi H Q →
    ∃ T id, typeLookup (.type T) "__getitem__" = pure (some (.builtin id)) ∧ s.TypeIs v T ∧ wpAny (model X.prog X.w) X.A (getItem v (.ref sl)) (EP X pins σ Q) X.xe s
theorem SlR.or {r r' : V → Option Int → Option Int → Hp → VK → Prop} (h : SlR X r) (h' : SlR X r') : SlR X (fun x lo hi H Q => r x lo hi H Q ∨ r' x lo hi H Q) := by
  intro pins s σ H x v vl vu lo hi sl Q I rx hs pl pu q
  rcases q with q | q
  · exact h pins s σ H x v vl vu lo hi sl Q I rx hs pl pu q
  · exact h' pins s σ H x v vl vu lo hi sl Q I rx hs pl pu q
def tSl (r : V → Option Int → Option Int → Hp → VK → Prop) (te : TE) (tl th : TO) : TE := fun σ H Q => te σ H fun x H1 => tl σ H1 fun l H2 => th σ H2 fun u H3 => r x l u H3 Q
theorem pe_slice {r : V → Option Int → Option Int → Hp → VK → Prop} (hr : SlR X r) (he : PE X e te) (hl : PO X lo tl) (hu : PO X hi th) : PE X (.Subscript e (.Slice lo hi none p2) pos) (tSl r te tl th) := by
  intro pins s σ H Q I h
  refine Subscript_ (thn (he pins s σ H _ I h) fun v s1 ⟨x, H1, I1, r1, q1⟩ => ?_)
  refine wpAny_Slice (thn (hl pins s1 σ H1 _ I1 q1) fun vl s2 ⟨l, H2, I2, pl, q2⟩ => thn (hu pins s2 σ H2 _ I2 q2) fun vu s3 ⟨u, H3, I3, pu, q3⟩ => ?_)
  rw [evalPart_none]
  refine wpAny_pure ?_
  have I4 : Inv X pins σ H3 { s3 with heap := s3.heap.push { cls := .type "slice", data := .fields #[vl, vu, .none] } } := I3.kept (t' := s3.toks) fun b ob q => Heap.get?_push_of_some _ q
  obtain ⟨T, id, hT, ht, hg⟩ := hr pins { s3 with heap := s3.heap.push { cls := .type "slice", data := .fields #[vl, vu, .none] } } σ H3 x v vl vu l u s3.heap.objs.size Q I4 r1 (Heap.IsSliceOf.new ..) pl pu q3
  show wpAny (model X.prog X.w) X.A (subscriptTail e (.Slice lo hi none p2) v (.ref s3.heap.objs.size)) (EP X pins σ Q) X.xe { s3 with heap := s3.heap.push { cls := .type "slice", data := .fields #[vl, vu, .none] } }
  exact tail_any (ops := [.ref s3.heap.objs.size, v]) ht hT hg (by with_unfolding_all rfl)
def cutV (xs : List V) (lo hi : Option Int) : List V := (xs.drop (HT.sIx xs.length 0 lo)).take (HT.sIx xs.length xs.length hi - HT.sIx xs.length 0 lo)
theorem cutV_length (xs : List V) (lo hi : Option Int) : (cutV xs lo hi).length ≤ xs.length := by
  unfold cutV
  rw [List.length_take, List.length_drop]
  omega
def rSlT (K : PySem.W.Frag) : V → Option Int → Option Int → Hp → VK → Prop := fun x lo hi H Q => ∃ a xs, x = .ref a ∧ SqT K H a xs ∧
  ¬ (HT.sIx xs.length 0 lo = 0 ∧ HT.sIx xs.length xs.length hi = xs.length) ∧ ∀ p, H p = none → Q (.ref p) (upd H p (.tup (cutV xs lo hi)))
theorem sl_tup : SlR X (rSlT X.K) := by
  intro pins s σ H x v vl vu lo hi sl Q I rx hs pl pu h
  obtain ⟨a, xs, rfl, hx, hw, q⟩ := h
  cases rx
  obtain ⟨its, r, ht, hz⟩ := I.tuple hx
  have hlen : its.toArray.size = xs.length := by rw [List.size_toArray]; exact r.length.symm
  refine ⟨"tuple", _, PyProof.Rows.slot_tuple_getitem.lookup, ht.typeIs, ?_⟩
  refine HT.getItem_tuple_cut ht hs pl pu (by rw [hlen]; exact hw) ?_ (by rw [hlen]; exact hz)
  rw [hlen]
  refine ⟨.ref s.heap.objs.size, _, I.laid (t' := s.toks) (o := .tup (cutV xs lo hi)) (fun b ob q => Heap.get?_push_of_some _ q) (Nat.le_refl _) ?_, rfl, q _ (I.hok.fresh (Nat.le_refl _))⟩
  exact ⟨Nat.le_trans (cutV_length xs lo hi) hz, _, (r.drop (HT.sIx xs.length 0 lo)).take (HT.sIx xs.length xs.length hi - HT.sIx xs.length 0 lo), IsTup.new _ _, _, Heap.get?_push_size _ rfl, rfl⟩
def rCatT (K : PySem.W.Frag) : R2 := fun x y H Q => ∃ a b xs ys, x = .ref a ∧ y = .ref b ∧ SqT K H a xs ∧ SqT K H b ys ∧ xs ≠ [] ∧ xs.length + ys.length ≤ sizeLine ∧
  (ys = [] → Q (.ref a) H) ∧ (ys ≠ [] → ∀ p, H p = none → Q (.ref p) (upd H p (.tup (xs ++ ys))))
theorem Vals.nil_iff {xs : List V} {us : List Value} (r : Vals xs us) : us = [] ↔ xs = [] := by
  cases r with
  | nil => simp
  | cons _ _ => simp
theorem op_catT : OpR X (binaryOp .Add) (rCatT X.K) := by
  intro pins s σ H x y v u Q I rx ry h
  obtain ⟨a, b, xs, ys, rfl, rfl, ha, hb, hx, hz, q1, q2⟩ := h
  cases rx
  cases ry
  obtain ⟨its, r1, p1, _⟩ := I.tuple ha
  obtain ⟨its2, r2, p2, _⟩ := I.tuple hb
  refine HT.cat_tup p1 p2 (fun z => hx (r1.nil_iff.mp z)) (fun z => ⟨.ref a, H, I, rfl, q1 (r2.nil_iff.mp z)⟩) (fun z => ?_) (by rw [← r1.length, ← r2.length]; exact hz)
  refine ⟨.ref s.heap.objs.size, _, I.laid (t' := s.toks) (o := .tup (xs ++ ys)) (fun b ob q => Heap.get?_push_of_some _ q) (Nat.le_refl _) ?_, rfl, q2 (fun w => z (r2.nil_iff.mpr w)) _ (I.hok.fresh (Nat.le_refl _))⟩
  exact ⟨by rw [List.length_append]; exact hz, _, r1.append r2, IsTup.new _ _, _, Heap.get?_push_size _ rfl, rfl⟩
end
end L2
namespace L2
open PySem PySem.Spec PyProof.Rows
def ixN (n : Nat) (i : Int) : Option Nat := if 0 ≤ i then (if i < n then some i.toNat else none) else if -(n : Int) ≤ i then some (i + n).toNat else none
def atI {α : Type} (xs : List α) (i : Int) : Option α := (ixN xs.length i).bind fun j => xs[j]?
theorem ixN_seq {n : Nat} {i : Int} {j : Nat} (h : ixN n i = some j) : seqIndex? i n = some j ∧ j < n ∧ -(n : Int) ≤ i ∧ i < n := by
  unfold ixN at h
  by_cases h0 : 0 ≤ i
  · rw [if_pos h0] at h
    by_cases h1 : i < n
    · rw [if_pos h1] at h
      have e : i.toNat = j := Option.some.inj h
      exact ⟨by rw [seqIndex_of h0 h1, e], by omega, by omega, h1⟩
    · rw [if_neg h1] at h; cases h
  · rw [if_neg h0] at h
    by_cases h1 : -(n : Int) ≤ i
    · rw [if_pos h1] at h
      have e : (i + n).toNat = j := Option.some.inj h
      exact ⟨by rw [seqIndex_neg (by omega) h1, e], by omega, h1, by omega⟩
    · rw [if_neg h1] at h; cases h
theorem atI_get {α : Type} {xs : List α} {i : Int} {v : α} (h : atI xs i = some v) : ∃ j, seqIndex? i xs.length = some j ∧ xs[j]? = some v ∧ j < xs.length ∧ -(xs.length : Int) ≤ i ∧ i < xs.length := by
  unfold atI at h
  cases e : ixN xs.length i with
  | none => rw [e] at h; cases h
  | some j =>
    rw [e] at h
    obtain ⟨h1, h2, h3, h4⟩ := ixN_seq e
    exact ⟨j, h1, h, h2, h3, h4⟩
def PlainIx (b : Expr) : Prop := ∀ o i, subscripted b false o i = operate [o, i] (getItem o i)
def IxR (X : Cx) (r : R2) : Prop :=
  ∀ (value slice : Expr) (pins : List (Addr × Obj)) (s : Shared) (σ : St) (H : Hp) (x y : V) (v u : Value) (Q : VK), Inv X pins σ H s → RelV x v → RelV y u → r x y H Q →
    subscripted slice false v u = operate [v, u] (getItem v u) → wpAny (model X.prog X.w) X.A (subscriptTail value slice v u) (EP X pins σ Q) X.xe s
def MtR (X : Cx) (id : String) (r : V → List V → Hp → VK → Prop) : Prop :=
  ∀ (pins : List (Addr × Obj)) (s : Shared) (σ : St) (H : Hp) (x : V) (xs : List V) (v : Value) (us : List Value) (Q : VK), Inv X pins σ H s → RelV x v → Vals xs us → r x xs H Q →
    wpAny (model X.prog X.w) X.A (call (.builtin id) (v :: us)) (EP X pins σ Q) X.xe s
section
variable {X : Cx} {a b : Expr} {ta tb : TE} {pos : Pos}
theorem IxR.or {r r' : R2} (h : IxR X r) (h' : IxR X r') : IxR X (fun x y H Q => r x y H Q ∨ r' x y H Q) := by
  intro value slice pins s σ H x y v u Q I rx ry q hs
  rcases q with q | q
  · exact h value slice pins s σ H x y v u Q I rx ry q hs
  · exact h' value slice pins s σ H x y v u Q I rx ry q hs
theorem MtR.or {id : String} {r r' : V → List V → Hp → VK → Prop} (h : MtR X id r) (h' : MtR X id r') : MtR X id (fun x xs H Q => r x xs H Q ∨ r' x xs H Q) := by
  intro pins s σ H x xs v us Q I rx rs q
  rcases q with q | q
  · exact h pins s σ H x xs v us Q I rx rs q
  · exact h' pins s σ H x xs v us Q I rx rs q
theorem pe_ix {r : R2} (hr : IxR X r) (ha : PE X a ta) (hb : PE X b tb) (hs : PlainIx b) : PE X (.Subscript a b pos) (tOp r ta tb) := by
  intro pins s σ H Q I h
  exact Subscript_ (binT ha hb I h fun v u s2 x y H2 I2 rx ry q => hr a b pins s2 σ H2 x y v u Q I2 rx ry q (hs _ _))
def rIxL (K : PySem.W.Frag) : R2 := fun x y H Q => ∃ p xs i v, x = .ref p ∧ y = .int i ∧ SqL K H p xs ∧ atI xs i = some v ∧ Q v H
def rIxT (K : PySem.W.Frag) : R2 := fun x y H Q => ∃ p xs i v, x = .ref p ∧ y = .int i ∧ SqT K H p xs ∧ atI xs i = some v ∧ Q v H
theorem ix_list : IxR X (rIxL X.K) := by
  intro value slice pins s σ H x y v u Q I rx ry h hs
  obtain ⟨p, xs, i, z, rfl, rfl, hq, he, q⟩ := h
  cases rx
  obtain ⟨t, rfl⟩ := ry
  obtain ⟨its, r, pl, hz⟩ := I.list hq
  obtain ⟨j, h1, h2, h3, h4, h5⟩ := atI_get he
  obtain ⟨w, ew, rw'⟩ := r.get h2
  have hl := r.length
  have hn := line63
  have fin : EP X pins σ Q w s := ⟨z, H, I, rw', q⟩
  by_cases h0 : 0 ≤ i
  · have hj : i.toNat = j := by
      rw [seqIndex_of h0 h5] at h1
      exact Option.some.inj h1
    exact item_listR pl.isList h0 (by omega) (by rw [hj]; simpa using ew) fin hs
  · have hj : (i + (its.toArray.size : Int)).toNat = j := by
      rw [seqIndex_neg (by omega) h4] at h1
      rw [List.size_toArray, ← hl]
      exact Option.some.inj h1
    exact subscriptTail_builtinR (x := w) pl.isList.typeIs slot_list_getitem.lookup
      (wpAny_getItem_list_neg (Q := fun r s' => r = w ∧ EP X pins σ Q r s') pl.isList (by omega) (by rw [List.size_toArray] <;> omega) (by omega) (by rw [hj]; simpa using ew) ⟨rfl, fin⟩) hs
theorem ix_tup : IxR X (rIxT X.K) := by
  intro value slice pins s σ H x y v u Q I rx ry h hs
  obtain ⟨p, xs, i, z, rfl, rfl, hq, he, q⟩ := h
  cases rx
  obtain ⟨t, rfl⟩ := ry
  obtain ⟨its, r, pl, hz⟩ := I.tuple hq
  obtain ⟨j, h1, h2, h3, h4, h5⟩ := atI_get he
  obtain ⟨w, ew, rw'⟩ := r.get h2
  have hl := r.length
  have hn := line63
  have fin : EP X pins σ Q w s := ⟨z, H, I, rw', q⟩
  exact subscriptTail_builtinR (x := w) pl.typeIs slot_tuple_getitem.lookup
    (getItem_tuple (j := j) (Q := fun r s' => r = w ∧ EP X pins σ Q r s') pl (by omega) (by omega) (by rw [List.size_toArray, ← hl]; exact h1) (by simpa using ew) ⟨rfl, fin⟩) hs
theorem mapSeq_set (its : List Value) (n j : Nat) (u : Value) : Obj.mapSeq (·.setIfInBounds j u) { cls := .type "list", data := .seq its.toArray n } = { cls := .type "list", data := .seq (its.set j u).toArray n } := by
  simp [Obj.mapSeq]
theorem Inv.lst {pins : List (Addr × Obj)} {σ : St} {H : Hp} {s : Shared} {p : Addr} {xs : List V} (I : Inv X pins σ H s) (h : H p = some (.lst xs)) :
    ∃ (its : List Value) (n : Nat), Vals xs its ∧ s.heap.get? p = some { cls := .type "list", data := .seq its.toArray n } ∧ xs.length ≤ sizeLine := by
  obtain ⟨z, its, n, r, e⟩ := I.hok p _ h
  exact ⟨its, n, r, e, z⟩
theorem Inv.lstUpd {pins : List (Addr × Obj)} {σ : St} {H : Hp} {s : Shared} {p : Addr} {xs ys : List V} {its its' : List Value} {n n' : Nat} {f : Obj → Obj} (I : Inv X pins σ H s) (h : H p = some (.lst xs))
    (ho : s.heap.get? p = some { cls := .type "list", data := .seq its.toArray n }) (hf : f { cls := .type "list", data := .seq its.toArray n } = { cls := .type "list", data := .seq its'.toArray n' }) (r : Vals ys its') (hz : ys.length ≤ sizeLine) (t : Nat) :
    Inv X pins σ (upd H p (.lst ys)) { s with heap := s.heap.update p f, toks := t } := by
  have e : (s.heap.update p f).get? p = some { cls := .type "list", data := .seq its'.toArray n' } := by
    rw [Heap.get?_update_self f ho (by rw [hf] <;> rfl), hf]
  refine I.write (x := p) (e := p) (by rw [h]; trivial) (.inl rfl) (fun b u hb q => (Heap.get?_update_other _ _ (Ne.symm hb)).trans q) ⟨_, e⟩ ?_
  exact ⟨hz, its', n', r, e⟩
def rSetL : V → V → V → Hp → (Hp → Prop) → Prop := fun o i v H Q => ∃ p xs k j, o = .ref p ∧ i = .int k ∧ H p = some (.lst xs) ∧ ixN xs.length k = some j ∧ Q (upd H p (.lst (xs.set j v)))
theorem set_list : PSet X rSetL := by
  intro pins s σ H o i v ov iv u Q I ro ri rv h
  obtain ⟨p, xs, k, j, rfl, rfl, hp, hj, q⟩ := h
  cases ro
  obtain ⟨t, rfl⟩ := ri
  obtain ⟨its, n, r, ho, hz⟩ := I.lst hp
  obtain ⟨h1, h2, h3, h4⟩ := ixN_seq hj
  have hl := r.length
  have hn := line63
  have I' : Inv X pins σ (upd H p (.lst (xs.set j v))) { s with heap := s.heap.update p (Obj.mapSeq (·.setIfInBounds j u)) } :=
    I.lstUpd hp ho (mapSeq_set its n j u) (r.set rv j) (by rw [List.length_set]; exact hz) s.toks
  by_cases h0 : 0 ≤ k
  · have hk : k.toNat = j := by
      rw [seqIndex_of h0 h4] at h1
      exact Option.some.inj h1
    exact PySem.W.ki_setAt ho h0 (by omega) (by rw [List.size_toArray, ← hl]; exact h4) (by rw [hk]; exact ⟨_, I', q⟩)
  · have hk : (k + (its.toArray.size : Int)).toNat = j := by
      rw [seqIndex_neg (by omega) h3] at h1
      rw [List.size_toArray, ← hl]
      exact Option.some.inj h1
    exact PySem.W.ki_setBack ho (by omega) (by rw [List.size_toArray, ← hl]; exact h3) (by omega) (by rw [hk]; exact ⟨_, I', q⟩)
theorem slice_bounds (lo hi : Option Int) (n : Nat) : (sliceBounds lo hi none n).1 = ((HT.sIx n 0 lo : Nat) : Int) ∧ (sliceBounds lo hi none n).2.1 = ((HT.sIx n n hi : Nat) : Int) ∧ (sliceBounds lo hi none n).2.2 = 1 := by
  refine ⟨?_, ?_, rfl⟩
  · cases lo with
    | none => simp [sliceBounds, HT.sIx]
    | some i =>
      simp only [sliceBounds, HT.sIx, Option.getD_none, show (1 : Int) > 0 by decide, if_true]
      by_cases h : i < 0
      · simp only [h, if_true] <;> omega
      · simp only [h, if_false] <;> omega
  · cases hi with
    | none => simp [sliceBounds, HT.sIx]
    | some i =>
      simp only [sliceBounds, HT.sIx, Option.getD_none, show (1 : Int) > 0 by decide, if_true]
      by_cases h : i < 0
      · simp only [h, if_true] <;> omega
      · simp only [h, if_false] <;> omega
theorem slicePick_cut (its : List Value) (lo hi : Option Int) : slicePick its.toArray lo hi none = ((its.drop (HT.sIx its.length 0 lo)).take (HT.sIx its.length its.length hi - HT.sIx its.length 0 lo)).toArray := by
  obtain ⟨h1, h2, h3⟩ := slice_bounds lo hi its.toArray.size
  unfold slicePick
  rw [h1, h2, h3]
  simp only [sliceRange_one, pick_run, List.size_toArray] <;> rfl
def rSlL (K : PySem.W.Frag) : V → Option Int → Option Int → Hp → VK → Prop := fun x lo hi H Q => ∃ a xs, x = .ref a ∧ SqL K H a xs ∧ ∀ p, H p = none → Q (.ref p) (upd H p (.lst (cutV xs lo hi)))
theorem sl_list : SlR X (rSlL X.K) := by
  intro pins s σ H x v vl vu lo hi sl Q I rx hs pl pu h
  obtain ⟨a, xs, rfl, hx, q⟩ := h
  cases rx
  obtain ⟨its, r, ht, hz⟩ := I.list hx
  have hlen := r.length
  refine ⟨"list", _, slot_list_getitem.lookup, ht.isList.typeIs, ?_⟩
  refine wpAny_getItem_list_slice ht.isList hs pl pu .none (by simp) ?_ (by rw [List.size_toArray] <;> omega)
  rw [slicePick_cut, ← hlen]
  refine ⟨.ref s.heap.objs.size, _, I.laid (t' := s.toks) (o := .lst (cutV xs lo hi)) (fun b ob q => Heap.get?_push_of_some _ q) (Nat.le_refl _) ?_, rfl, q _ (I.hok.fresh (Nat.le_refl _))⟩
  exact ⟨Nat.le_trans (cutV_length xs lo hi) hz, _, 0, (r.drop (HT.sIx xs.length 0 lo)).take (HT.sIx xs.length xs.length hi - HT.sIx xs.length 0 lo), Heap.get?_push_size _ rfl⟩
theorem call_len_seq : CallR X (.builtin "len") (fun xs H Q => ∃ p ys, xs = [.ref p] ∧ (SqL X.K H p ys ∨ SqT X.K H p ys) ∧ Q (.int ys.length) H) := by
  intro pins s σ H xs us Q I r h
  obtain ⟨p, ys, rfl, hq, q⟩ := h
  obtain ⟨u, rfl, rx⟩ := vals1 r
  cases rx
  have hn := line63
  rcases hq with hq | hq
  · obtain ⟨its, r', pl, hz⟩ := I.list hq
    have hlen := r'.length
    exact Calls.call_len_list pl.isList (by simp only [List.size_toArray] <;> omega) ⟨.int ys.length, H, I.tok _, ⟨s.toks + 1, by rw [List.size_toArray, hlen]⟩, q⟩
  · obtain ⟨its, r', pl, hz⟩ := I.tuple hq
    have hlen := r'.length
    exact len_tuple pl (by simp only [List.size_toArray] <;> omega) ⟨.int ys.length, H, I.tok _, ⟨s.toks + 1, by rw [List.size_toArray, hlen]⟩, q⟩
theorem CallR.or {f : Value} {r r' : List V → Hp → VK → Prop} (h : CallR X f r) (h' : CallR X f r') : CallR X f (fun xs H Q => r xs H Q ∨ r' xs H Q) := by
  intro pins s σ H xs us Q I rs q
  rcases q with q | q
  · exact h pins s σ H xs us Q I rs q
  · exact h' pins s σ H xs us Q I rs q
theorem call_list_of : CallR X (.type "list") (fun xs H Q => ∃ p ys, xs = [.ref p] ∧ (SqL X.K H p ys ∨ SqT X.K H p ys) ∧ ∀ l, H l = none → Q (.ref l) (upd H l (.lst ys))) := by
  intro pins s σ H xs us Q I r h
  obtain ⟨p, ys, rfl, hq, q⟩ := h
  obtain ⟨u, rfl, rx⟩ := vals1 r
  cases rx
  have fin : ∀ (its : List Value), Vals ys its → ys.length ≤ sizeLine → ∀ (h' : Heap) (c' : Nat), (∀ b o', s.heap.get? b = some o' → h'.get? b = some o') →
      h'.get? s.heap.objs.size = some { cls := .type "list", dict := none, data := .seq its.toArray c', slots := #[] } → EP X pins σ Q (.ref s.heap.objs.size) { s with heap := h' } := fun its r' hz h' c' kp e =>
    ⟨.ref s.heap.objs.size, _, I.laid (t' := s.toks) kp (Nat.le_refl _) (show ObjOk X.prog X.w _ h' _ (.lst ys) from ⟨hz, its, c', r', e⟩), rfl, q _ (I.hok.fresh (Nat.le_refl _))⟩
  rcases hq with hq | hq
  · obtain ⟨its, r', pl, hz⟩ := I.list hq
    have hlen := r'.length
    obtain ⟨o, ho, hc, n, hd⟩ := pl.isList
    exact call_list_seq p (.inl rfl) ho hc hd (fun h' c' kp e => fin its r' hz h' c' kp e) (by simp only [List.size_toArray] <;> omega)
  · obtain ⟨its, r', pl, hz⟩ := I.tuple hq
    have hlen := r'.length
    obtain ⟨o, ho, hc, n, hd⟩ := pl
    exact call_list_seq p (.inr rfl) ho hc hd (fun h' c' kp e => fin its r' hz h' c' kp e) (by simp only [List.size_toArray] <;> omega)
theorem call_tuple_of : CallR X (.type "tuple") (fun xs H Q => ∃ p ys, xs = [.ref p] ∧ ((SqL X.K H p ys ∧ ∀ l, H l = none → Q (.ref l) (upd H l (.tup ys))) ∨ (SqT X.K H p ys ∧ Q (.ref p) H))) := by
  intro pins s σ H xs us Q I r h
  obtain ⟨p, ys, rfl, h⟩ := h
  obtain ⟨u, rfl, rx⟩ := vals1 r
  cases rx
  rcases h with ⟨hq, q⟩ | ⟨hq, q⟩
  · obtain ⟨its, r', pl, hz⟩ := I.list hq
    have hlen := r'.length
    refine call_tuple_list pl.isList (fun h' kp => ?_) (by simp only [List.size_toArray] <;> omega)
    have I1 : Inv X pins σ H { s with heap := h' } := I.kept (t' := s.toks) kp
    have I2 : Inv X pins σ (upd H h'.objs.size (.tup ys)) { s with heap := h'.push { cls := .type "tuple", data := .seq its.toArray } } :=
      I1.laid (t' := s.toks) (fun b o e => Heap.get?_push_of_some _ e) (Nat.le_refl _) (show ObjOk X.prog X.w _ _ _ (.tup ys) from ⟨hz, its, r', IsTup.new _ _, _, Heap.get?_push_size _ rfl, rfl⟩)
    exact ⟨.ref h'.objs.size, _, I2, rfl, q _ (I1.hok.fresh (Nat.le_refl _))⟩
  · obtain ⟨its, r', pl, hz⟩ := I.tuple hq
    exact call_tuple_same pl ⟨.ref p, H, I, rfl, q⟩
variable {o e : Expr} {es : List Expr} {to : TE} {t : TA} {name : Str} {apos cpos : Pos} {T id : String} {r : V → List V → Hp → VK → Prop}
end
end L2
namespace L2
open PySem PySem.Spec PyProof.Rows
theorem Vals.one : ∀ {x : V} {us : List Value}, Vals [x] us → ∃ u, us = [u] ∧ RelV x u
  | _, _, .cons r .nil => ⟨_, rfl, r⟩
theorem Vals.two : ∀ {x y : V} {us : List Value}, Vals [x, y] us → ∃ u v, us = [u, v] ∧ RelV x u ∧ RelV y v
  | _, _, _, .cons r (.cons q .nil) => ⟨_, _, rfl, r, q⟩
theorem Vals.zero : ∀ {us : List Value}, Vals [] us → us = []
  | _, .nil => rfl
theorem Vals.reverse {xs : List V} {us : List Value} (h : Vals xs us) : Vals xs.reverse us.reverse := by
  induction h with
  | nil => exact .nil
  | cons r t ih => rw [List.reverse_cons, List.reverse_cons]; exact Vals.append ih (.cons r .nil)
theorem Vals.rep {xs : List V} {us : List Value} (h : Vals xs us) : ∀ k : Nat, Vals (List.replicate k xs).flatten (List.replicate k us).flatten
  | 0 => .nil
  | k + 1 => by
    rw [List.replicate_succ, List.replicate_succ, List.flatten_cons, List.flatten_cons]
    exact Vals.append h (Vals.rep h k)
theorem foldl_rep (its : List Value) : ∀ (k : Nat) (acc : List Value),
    List.foldl (fun x1 x2 => x1 ++ x2) acc.toArray (List.replicate k its.toArray) = (acc ++ (List.replicate k its).flatten).toArray
  | 0, acc => by simp
  | k + 1, acc => by
    have e : acc.toArray ++ its.toArray = (acc ++ its).toArray := by simp
    have e2 : (acc ++ its) ++ (List.replicate k its).flatten = acc ++ (List.replicate (k + 1) its).flatten := by
      rw [List.replicate_succ, List.flatten_cons, List.append_assoc]
    rw [← e2, ← foldl_rep its k (acc ++ its), ← e, List.replicate_succ, List.foldl_cons]
section
variable {X : Cx} {pins : List (Addr × Obj)} {σ : St} {H : Hp} {s : Shared} {l b : Addr} {xs ys zs : List V}
theorem Inv.lnew {its : List Value} {t' : Nat} (I : Inv X pins σ H s) (hv : Vals ys its) (hz : ys.length ≤ sizeLine) :
    Inv X pins σ (upd H s.heap.objs.size (.lst ys)) { s with heap := s.heap.push { cls := .type "list", data := .seq its.toArray }, toks := t' } :=
  I.laid (fun _ _ q => Heap.get?_push_of_some _ q) (Nat.le_refl _) ⟨hz, its, 0, hv, Heap.get?_push_size _ rfl⟩
theorem Inv.fresh (I : Inv X pins σ H s) : H s.heap.objs.size = none := I.hok.fresh (Nat.le_refl _)
theorem Inv.lstM (I : Inv X pins σ H s) (hH : H l = some (.lst xs)) : xs.length ≤ sizeLine ∧ ∃ (its : List Value) (n : Nat), Vals xs its ∧ xs.length = its.length ∧ s.heap.get? l = some { cls := .type "list", data := .seq its.toArray n } := by
  obtain ⟨z, its, n, r, e⟩ := I.hok l _ hH
  exact ⟨z, its, n, r, r.length, e⟩
theorem notLongL {n : Nat} (h : n ≤ sizeLine) : Builtin.List.listTooLong n = false := by
  unfold Builtin.List.listTooLong
  exact decide_eq_false (by omega)
end
section
variable {X : Cx}
def rCat : R2 := fun x y H Q => ∃ l b xs zs, x = .ref l ∧ y = .ref b ∧ H l = some (.lst xs) ∧ H b = some (.lst zs) ∧ xs.length + zs.length ≤ sizeLine ∧ ∀ p, H p = none → Q (.ref p) (upd H p (.lst (xs ++ zs)))
theorem op_cat : OpR X (binaryOp .Add) rCat := by
  intro pins s σ H x y v u Q I rx ry h
  obtain ⟨l, b, xs, zs, rfl, rfl, hH, hB, hz, q⟩ := h
  cases rx
  cases ry
  obtain ⟨z, its, n, r, hl, e⟩ := I.lstM hH
  obtain ⟨z2, its2, n2, r2, hl2, e2⟩ := I.lstM hB
  refine PySem.P.add_list e e2 ?_ (by rw [List.size_toArray, List.size_toArray]; omega)
  have ea : its.toArray ++ its2.toArray = (its ++ its2).toArray := by simp
  rw [ea]
  exact ⟨.ref _, _, I.lnew (t' := s.toks) (r.append r2) (by rw [List.length_append]; omega), rfl, q _ I.fresh⟩
def rRep : R2 := fun x y H Q => ∃ l k xs, x = .ref l ∧ y = .int k ∧ H l = some (.lst xs) ∧ -(2 ^ 63) ≤ k ∧ k < 2 ^ 63 ∧ xs.length * k.toNat ≤ sizeLine ∧
  ∀ p, H p = none → Q (.ref p) (upd H p (.lst (List.replicate k.toNat xs).flatten))
theorem len_rep {α : Type} (xs : List α) (k : Nat) : (List.replicate k xs).flatten.length = k * xs.length := by
  induction k with
  | zero => simp
  | succ k ih => rw [List.replicate_succ, List.flatten_cons, List.length_append, ih, Nat.succ_mul, Nat.add_comm]
theorem op_rep : OpR X (binaryOp .Mult) rRep := by
  intro pins s σ H x y v u Q I rx ry h
  obtain ⟨l, k, xs, rfl, rfl, hH, h1, h2, hz, q⟩ := h
  cases rx
  obtain ⟨t, rfl⟩ := ry
  obtain ⟨z, its, n, r, hl, e⟩ := I.lstM hH
  have hlen : its.toArray.size * k.toNat ≤ sizeLine := by rw [List.size_toArray, ← hl]; exact hz
  have hcap : ¬ its.toArray.size * k.toNat > (2 ^ 63 - 1) / 8 := by
    have : (sizeLine : Nat) ≤ (2 ^ 63 - 1) / 8 := by decide
    omega
  have hfit : ¬ (!Builtin.List.listFitsIndex k) = true := by
    rw [fitsIndex_both h1 h2]
    exact Bool.false_ne_true
  have hlong : ¬ Builtin.List.listTooLong (its.toArray.size * k.toNat) = true := by
    rw [notLongL hlen]
    exact Bool.false_ne_true
  have hnew : List.foldl (fun x1 x2 => x1 ++ x2) #[] (List.replicate (if its.toArray.isEmpty = true then 0 else k.toNat) its.toArray) = (List.replicate k.toNat its).flatten.toArray := by
    have f0 : ∀ m : Nat, List.foldl (fun x1 x2 => x1 ++ x2) #[] (List.replicate m its.toArray) = (List.replicate m its).flatten.toArray := fun m => by
      have := foldl_rep its m []
      rw [List.nil_append] at this
      exact this
    rw [f0]
    cases its with
    | nil => simp
    | cons a r' => rw [if_neg (by simp)]
  refine wpAny_binaryOp_repeat_ref (T := "list") (U := "int") (by decide) ⟨_, e, rfl⟩ (fun s' => typeIs_int s' k t) noFill_list_mul F.fills_int_mul F.slot_int_rmul repeat_list F.slot_int_index.lookup
    (call_meets F.slot_int_rmul (typeIs_int s k t) F.entry_int_rmul (F.args_int_rmul_2 _ _) (int___rmul___int_list k t l its.toArray n)
      ⟨e, rfl, ⟨_, e, rfl⟩, call_meets F.slot_list_mul ⟨_, e, rfl⟩ F.entry_list_mul (F.args_list_mul_2 _ _) (AutoListH.list___mul___list_int_3 l its.toArray n k t hfit hcap hlong) ⟨e, ?_⟩⟩)
  rw [hnew]
  exact ⟨.ref _, _, I.lnew (t' := s.toks) (r.rep k.toNat) (by rw [len_rep, Nat.mul_comm]; exact hz), rfl, q _ I.fresh⟩
end
section
variable {prog : Program} {w : World} {A : Around} {E : Value → Shared → Prop} {s : Shared}
end
section
variable {X : Cx}
end
end L2
namespace L2
open PySem PySem.Spec PyProof.Rows
theorem Vals.ints : ∀ {ns : List Int} {us : List Value}, Vals (ns.map V.int) us → IntsAre us ns
  | [], us, h => by
    rw [List.map_nil] at h
    cases h
    exact IntsAre.nil
  | n :: ns, us, h => by
    rw [List.map_cons] at h
    cases h with
    | cons r t =>
      obtain ⟨k, rfl⟩ := r
      exact IntsAre.cons n k (Vals.ints t)
theorem Vals.strs : ∀ {xs : List Str} {us : List Value}, Vals (xs.map V.str) us → StrsAre us xs
  | [], us, h => by
    rw [List.map_nil] at h
    cases h
    exact StrsAre.nil
  | x :: xs, us, h => by
    rw [List.map_cons] at h
    cases h with
    | cons r t =>
      obtain ⟨k, rfl⟩ := r
      exact StrsAre.cons x k (Vals.strs t)
theorem Vals.bls : ∀ {bs : List Bool} {us : List Value}, Vals (bs.map V.bl) us → us = bs.map Value.bool
  | [], us, h => by
    rw [List.map_nil] at h
    cases h
    rfl
  | b :: bs, us, h => by
    rw [List.map_cons] at h
    cases h with
    | cons r t =>
      cases r
      rw [Vals.bls t, List.map_cons]
theorem Vals.ref1 {a : Addr} {us : List Value} (r : Vals [V.ref a] us) : us = [Value.ref a] := by
  cases r with
  | cons r t =>
    cases t
    cases r
    rfl
section
variable {prog : Program} {w : World} {A : Around} {E : Value → Shared → Prop} {s : Shared} {l : Addr} {its : List Value} {ns : List Int} {Q : Value → Shared → Prop}
end
section
variable {X : Cx}
end
section
variable {X : Cx}
end
section
variable {X : Cx}
end
theorem iter_any {prog : Program} {w : World} {A : Around} {E : Value → Shared → Prop} {s : Shared} {l : Addr} {items : Array Value} {Q : Value → Shared → Prop} (hl : s.heap.IsList l items)
    (h : ∀ s₂ : Shared, s₂ = { s with heap := s.heap.push { cls := .type "list_iterator", data := .fields #[.ref l, .int 0 0] } } →
      (s₂.heap.IsListIter s.heap.objs.size l 0 ∧ s₂.heap.IsList l items) → l ≠ s.heap.objs.size → Q (.ref s.heap.objs.size) s₂) : wpAny (model prog w) A (pyIter (.ref l)) Q E s := by
  have hlt : l < s.heap.objs.size := by obtain ⟨_, e, _⟩ := hl; exact Heap.lt_size e
  exact wpAny_pyIter_list hl (h _ rfl ⟨⟨_, Heap.get?_push_size _ rfl, rfl, rfl⟩, hl.push _⟩ (Nat.ne_of_lt hlt))
theorem truth_bools {prog : Program} {w : World} {A : Around} {bs : List Bool} {its : List Value} (e : its = bs.map Value.bool) :
    TruthOf prog w A (fun i v => its.toArray[i]? = some v) (fun i => bs.getD i false) := fun i v s Q E hv hq => by
  have hv' : its[i]? = some v := by simpa using hv
  rw [e, List.getElem?_map] at hv'
  obtain ⟨b, hb, rfl⟩ := Option.map_eq_some_iff.mp hv'
  have hg : bs.getD i false = b := by rw [List.getD_eq_getElem?_getD, hb] <;> rfl
  have hq' : Q (bs.getD i false) s := hq
  rw [hg] at hq'
  exact wpAny_truthy_bool hq'
theorem all_range : ∀ bs : List Bool, (List.range bs.length).all (fun i => bs.getD i false) = bs.all id
  | [] => rfl
  | b :: bs => by
    rw [List.length_cons, List.range_succ_eq_map, List.all_cons, List.all_map, List.all_cons, ← all_range bs]
    all_goals rfl
section
variable {X : Cx}
def rAll (K : PySem.W.Frag) : List V → Hp → VK → Prop := fun vs H Q => ∃ (a : Addr) (bs : List Bool), vs = [V.ref a] ∧ SqL K H a (bs.map V.bl) ∧ Q (.bl (bs.all id)) H
theorem cr_all (hc : X.calm = true) : CallR X (.builtin "all") (rAll X.K) := by
  intro pins s σ H vs us Q I r h
  obtain ⟨a, bs, rfl, hs, q⟩ := h
  obtain ⟨its, rv, hl, _⟩ := I.list hs
  rw [Vals.ref1 r]
  have hb := rv.bls
  refine call_all_walk (iter_any hl.isList fun s₂ e2 st hne => ?_)
  subst e2
  refine ⟨_, _, _, _, _, _, _, rfl, Walks.list (A := X.A.in1) (I.ok.hd hc) _ a hne its.toArray, st, truth_bools hb, fun h' tk hk => ?_⟩
  refine ⟨.bl _, H, I.kept fun b o eo => hk b o (fun hmem => ?_) (Heap.get?_push_of_some _ eo), ?_, q⟩
  · rcases List.mem_cons.mp hmem with e1 | hmem
    · exact absurd (e1 ▸ Heap.lt_size eo) (Nat.lt_irrefl _)
    · cases hmem
  · show Value.bool _ = Value.bool _
    rw [← all_range, hb, List.size_toArray, List.length_map]
end
mutual
inductive Dp (K : PySem.W.Frag) (H : Hp) : V → PyData → Prop
  | non : Dp K H .non .none
  | bl (b : Bool) : Dp K H (.bl b) (.bool b)
  | int (i : Int) : Dp K H (.int i) (.int i)
  | str (x : Str) : Dp K H (.str x) (.str x)
  | lst {a : Addr} {xs : List V} {ds : List PyData} : SqL K H a xs → DpAll K H xs ds → Dp K H (.ref a) (.list ds)
  | tup {a : Addr} {xs : List V} {ds : List PyData} : SqT K H a xs → DpAll K H xs ds → Dp K H (.ref a) (.tuple ds)
inductive DpAll (K : PySem.W.Frag) (H : Hp) : List V → List PyData → Prop
  | nil : DpAll K H [] []
  | cons {v : V} {vs : List V} {d : PyData} {ds : List PyData} : Dp K H v d → DpAll K H vs ds → DpAll K H (v :: vs) (d :: ds)
end
section
variable {X : Cx} {pins : List (Addr × Obj)} {σ : St} {H : Hp} {s : Shared}
mutual
theorem Dp.reads (I : Inv X pins σ H s) : ∀ (d : PyData) (v : V) (u : Value), Dp X.K H v d → RelV v u → ∃ as, Reads s.heap u d as
  | .none, _, _, h, r => by
    cases h
    cases r
    exact ⟨_, Reads.none⟩
  | .bool b, _, _, h, r => by
    cases h
    cases r
    exact ⟨_, Reads.bool b⟩
  | .int i, _, _, h, r => by
    cases h
    obtain ⟨t, rfl⟩ := r
    exact ⟨_, Reads.int i t⟩
  | .str x, _, _, h, r => by
    cases h
    obtain ⟨t, rfl⟩ := r
    exact ⟨_, Reads.str x t⟩
  | .list ds, _, _, h, r => by
    cases h with
    | lst hs ha =>
      cases r
      obtain ⟨its, rv, ⟨o, n, ho, hc, _, hd⟩, _⟩ := I.list hs
      obtain ⟨as, hr⟩ := Dp.readsAll I ds _ its ha rv
      exact ⟨_, Reads.list ho hc hd hr⟩
  | .tuple ds, _, _, h, r => by
    cases h with
    | tup hs ha =>
      cases r
      obtain ⟨its, rv, ⟨o, ho, hc, n, hd⟩, _⟩ := I.tuple hs
      obtain ⟨as, hr⟩ := Dp.readsAll I ds _ its ha rv
      exact ⟨_, Reads.tuple ho hc hd hr⟩
  | .dict _, _, _, h, _ => by cases h
theorem Dp.readsAll (I : Inv X pins σ H s) : ∀ (ds : List PyData) (vs : List V) (us : List Value), DpAll X.K H vs ds → Vals vs us → ∃ as, ReadsAll s.heap us ds as
  | [], _, _, h, r => by
    cases h
    cases r
    exact ⟨_, ReadsAll.nil⟩
  | d :: ds, _, _, h, r => by
    cases h with
    | cons h1 h2 =>
      cases r with
      | cons r1 r2 =>
        obtain ⟨as, q1⟩ := Dp.reads I d _ _ h1 r1
        obtain ⟨bs, q2⟩ := Dp.readsAll I ds _ _ h2 r2
        exact ⟨_, ReadsAll.cons q1 q2⟩
end
end
section
variable {X : Cx}
def rEqD (K : PySem.W.Frag) : R2 := fun x y H Q => ∃ d e, Dp K H x d ∧ Dp K H y e ∧ SeqAt.shaped d = true ∧ SeqAt.shaped e = true ∧ Q (.bl (PyData.eqv d e)) H
def rNeD (K : PySem.W.Frag) : R2 := fun x y H Q => ∃ d e, Dp K H x d ∧ Dp K H y e ∧ SeqAt.shaped d = true ∧ SeqAt.shaped e = true ∧ Q (.bl (!PyData.eqv d e)) H
theorem op_eqD (hu : X.A.units + 64 < cLine) : OpR X (compareOp .Eq) (rEqD X.K) := by
  intro pins s σ H x y v u Q I rx ry h
  obtain ⟨d, e, hd, he, sd, se, q⟩ := h
  obtain ⟨as, r1⟩ := Dp.reads I d x v hd rx
  obtain ⟨bs, r2⟩ := Dp.reads I e y u he ry
  exact SeqAt.compareEq_shaped r1 r2 sd se hu ⟨.bl _, H, I, rfl, q⟩
theorem op_neD (hu : X.A.units + 64 < cLine) : OpR X (compareOp .NotEq) (rNeD X.K) := by
  intro pins s σ H x y v u Q I rx ry h
  obtain ⟨d, e, hd, he, sd, se, q⟩ := h
  obtain ⟨as, r1⟩ := Dp.reads I d x v hd rx
  obtain ⟨bs, r2⟩ := Dp.reads I e y u he ry
  exact SeqAt.compareNe_shaped r1 r2 sd se hu ⟨.bl _, H, I, rfl, q⟩
end
end L2
namespace L2
open PySem PySem.Spec PyProof.Rows
abbrev CellAt (h : Heap) (c : Addr) (v : Option Value) : Prop := h.IsCell c v
def relS (scope sc : Scope) : Scope :=
  { scope with names := scope.names.map fun (n, k) => if (k == .free && sc.kind == .function && sc.names.lookup n == some .cell) then (n, .cell) else (n, k) }
def cloFrom (cells : List (Str × Addr)) : List (Str × NameKind) → List (Str × Addr) → List (Str × Addr)
  | [], acc => acc
  | (n, k) :: r, acc => if k == .free then cloFrom cells r ((n, (cells.lookup n).getD 0) :: acc) else cloFrom cells r acc
theorem closure_loop (env : Env) (f : Str × NameKind → List (Str × Addr) → Sem (ForInStep (List (Str × Addr))))
    (hf : ∀ n k c, f (n, k) c = if k == .free then (do let a ← cellOf env n; pure (.yield ((n, a) :: c))) else pure (.yield c)) :
    ∀ (names : List (Str × NameKind)) (acc : List (Str × Addr)), (∀ y ∈ names, y.2 = .free → ∃ c, env.cells.lookup y.1 = some c) → forIn names acc f = pure (cloFrom env.cells names acc)
  | [], acc, _ => by rw [List.forIn_nil]; rfl
  | (n, k) :: r, acc, h => by
    rw [List.forIn_cons, hf]
    have ih := fun acc => closure_loop env f hf r acc fun y hy => h y (List.mem_cons_of_mem _ hy)
    unfold cloFrom
    by_cases hk : (k == NameKind.free) = true
    · rw [if_pos hk, if_pos hk]
      obtain ⟨c, hc⟩ := h (n, k) List.mem_cons_self (by simpa using hk)
      have e : cellOf env n = pure c := by unfold cellOf; rw [hc]
      rw [e]
      have e2 : (env.cells.lookup n).getD 0 = c := by rw [hc]; rfl
      rw [e2]
      exact ih _
    · rw [if_neg hk, if_neg hk]
      exact ih _
theorem closure_ok {scope : Scope} {env : Env} (h : ∀ y ∈ scope.names, y.2 = .free → ∃ c, env.cells.lookup y.1 = some c) : closureFor scope env = pure (cloFrom env.cells scope.names []) := by
  simp only [closureFor]
  rw [closure_loop env _ (fun n k c => rfl) scope.names [] h]
  rfl
theorem mem_lookup {α : Type} : ∀ {l : List (Str × α)} {n : Str} {c : α}, (n, c) ∈ l → ∃ c', l.lookup n = some c'
  | (k, v) :: r, n, c, h => by
    rw [List.lookup_cons]
    cases hb : n == k with
    | true => exact ⟨_, rfl⟩
    | false =>
      rcases List.mem_cons.mp h with e | h
      · cases e; simp at hb
      · exact mem_lookup h
theorem cloFrom_mem {cells : List (Str × Addr)} : ∀ {names : List (Str × NameKind)} {acc : List (Str × Addr)} {n : Str} {c : Addr}, (n, c) ∈ cloFrom cells names acc → (n, c) ∈ acc ∨ ((n, .free) ∈ names ∧ c = (cells.lookup n).getD 0)
  | [], _, _, _, h => .inl h
  | (m, k) :: r, acc, n, c, h => by
    unfold cloFrom at h
    split at h
    · rename_i hk
      have hk : k = .free := by simpa using hk
      rcases cloFrom_mem h with h | ⟨h1, h2⟩
      · rcases List.mem_cons.mp h with e | h
        · cases e; exact .inr ⟨hk ▸ List.mem_cons_self, rfl⟩
        · exact .inl h
      · exact .inr ⟨List.mem_cons_of_mem _ h1, h2⟩
    · rcases cloFrom_mem h with h | ⟨h1, h2⟩
      · exact .inl h
      · exact .inr ⟨List.mem_cons_of_mem _ h1, h2⟩
theorem cloFrom_acc {cells : List (Str × Addr)} : ∀ {names : List (Str × NameKind)} {acc : List (Str × Addr)} {p : Str × Addr}, p ∈ acc → p ∈ cloFrom cells names acc
  | [], _, _, h => h
  | (m, k) :: r, acc, p, h => by
    unfold cloFrom
    split
    · exact cloFrom_acc (List.mem_cons_of_mem _ h)
    · exact cloFrom_acc h
theorem cloFrom_has {cells : List (Str × Addr)} : ∀ {names : List (Str × NameKind)} {acc : List (Str × Addr)} {n : Str}, (n, .free) ∈ names → (n, (cells.lookup n).getD 0) ∈ cloFrom cells names acc
  | (m, k) :: r, acc, n, h => by
    unfold cloFrom
    rcases List.mem_cons.mp h with e | h
    · cases e
      exact cloFrom_acc List.mem_cons_self
    · split
      · exact cloFrom_has h
      · exact cloFrom_has h
theorem cells_mem : ∀ {names : List (Str × NameKind)} {h : Heap} {acc : List (Str × Addr)} {x : Str} {c : Addr}, (x, c) ∈ cellsFrom h.objs.size names acc →
    (x, c) ∈ acc ∨ ((x, .cell) ∈ names ∧ h.objs.size ≤ c ∧ CellAt (pushCells h names) c none)
  | [], _, _, _, _, h => .inl h
  | (n, k) :: r, h, acc, x, c, hm => by
    unfold cellsFrom at hm
    unfold pushCells
    split at hm
    · rename_i hk
      rw [if_pos hk]
      have hk : k = .cell := by simpa using hk
      rw [← Heap.size_push h { cls := .type "cell", data := .cell none }] at hm
      rcases cells_mem hm with hm | ⟨h1, h2, h3⟩
      · rcases List.mem_cons.mp hm with e | hm
        · cases e
          exact .inr ⟨hk ▸ List.mem_cons_self, Nat.le_refl _, _, pushCells_keeps r _ _ _ (Heap.get?_push_size _ rfl), rfl⟩
        · exact .inl hm
      · rw [Heap.size_push] at h2
        exact .inr ⟨List.mem_cons_of_mem _ h1, Nat.le_of_succ_le h2, h3⟩
    · rename_i hk
      rw [if_neg hk]
      rcases cells_mem hm with hm | ⟨h1, h2, h3⟩
      · exact .inl hm
      · exact .inr ⟨List.mem_cons_of_mem _ h1, h2, h3⟩
theorem cells_acc : ∀ {names : List (Str × NameKind)} {n : Nat} {acc : List (Str × Addr)} {p : Str × Addr}, p ∈ acc → p ∈ cellsFrom n names acc
  | [], _, _, _, h => h
  | (m, k) :: r, n, acc, p, h => by
    unfold cellsFrom
    split
    · exact cells_acc (List.mem_cons_of_mem _ h)
    · exact cells_acc h
theorem cells_has : ∀ {names : List (Str × NameKind)} {n : Nat} {acc : List (Str × Addr)} {x : Str}, (x, .cell) ∈ names → ∃ c, (x, c) ∈ cellsFrom n names acc
  | (m, k) :: r, n, acc, x, h => by
    unfold cellsFrom
    rcases List.mem_cons.mp h with e | h
    · cases e
      exact ⟨n, cells_acc List.mem_cons_self⟩
    · split
      · exact cells_has h
      · exact cells_has h
theorem cells_inj : ∀ {names : List (Str × NameKind)} {h : Heap} {acc : List (Str × Addr)} {x y : Str} {c : Addr}, (∀ p ∈ acc, p.2 < h.objs.size) → (∀ x y c, (x, c) ∈ acc → (y, c) ∈ acc → x = y) →
    (x, c) ∈ cellsFrom h.objs.size names acc → (y, c) ∈ cellsFrom h.objs.size names acc → x = y
  | [], _, _, _, _, _, _, hi, h1, h2 => hi _ _ _ h1 h2
  | (n, k) :: r, h, acc, x, y, c, hl, hi, h1, h2 => by
    unfold cellsFrom at h1 h2
    split at h1
    · rename_i hk
      rw [if_pos hk] at h2
      rw [← Heap.size_push h { cls := .type "cell", data := .cell none }] at h1 h2
      refine cells_inj (h := h.push _) (fun p hp => ?_) (fun x y c a b => ?_) h1 h2
      · rw [Heap.size_push]
        rcases List.mem_cons.mp hp with rfl | hp
        · exact Nat.lt_succ_self _
        · exact Nat.lt_succ_of_lt (hl p hp)
      · rcases List.mem_cons.mp a with e | a <;> rcases List.mem_cons.mp b with e' | b
        · cases e; cases e'; rfl
        · cases e; exact absurd (hl _ b) (Nat.lt_irrefl _)
        · cases e'; exact absurd (hl _ a) (Nat.lt_irrefl _)
        · exact hi _ _ _ a b
    · rename_i hk
      rw [if_neg hk] at h2
      exact cells_inj hl hi h1 h2
theorem newEnv_comp {M : Model} {A : Around} {E : Value → Shared → Prop} {s : Shared} {scope : Scope} {globals : Addr} {closure : List (Str × Addr)} {qual : Str} {func : Option Addr} {code : Value} {around : Env} {builtins : Addr} {Q : Env → Shared → Prop}
    (h : Q (newEnv scope s.heap.objs.size globals (cellsFrom (s.heap.objs.size + 1) scope.names closure) qual func code (some around) builtins)
      { s with heap := pushCells (s.heap.push { cls := .type "dict", data := .dict #[] }) scope.names }) :
    wpAny M A (newFunctionEnv scope globals closure [] qual func code (some around) builtins) Q E s := by
  simp only [newFunctionEnv, Option.isSome_some, if_true]
  refine wpAny_bind (wpAny_alloc ?_)
  refine wpAny_bind (wpAny_layCells _ (fun n k c => rfl) scope.names closure _ _ ?_)
  rw [show ({ s with heap := s.heap.push { cls := .type "dict", data := .dict #[] } } : Shared).heap.objs.size = s.heap.objs.size + 1 from Heap.size_push ..]
  rw [List.forIn_nil]
  exact wpAny_bind (wpAny_pure (wpAny_pure h))
theorem lookup_relS {sc : Scope} : ∀ {names : List (Str × NameKind)} {x : Str} {k : NameKind},
    (names.map fun (n, k) => if (k == NameKind.free && sc.kind == .function && sc.names.lookup n == some .cell) then (n, NameKind.cell) else (n, k)).lookup x = some k →
    ∃ k', names.lookup x = some k' ∧ (k = k' ∨ (k' = .free ∧ k = .cell))
  | [], _, _, h => by simp at h
  | (n, k₀) :: r, x, k, h => by
    have ih := @lookup_relS sc r x k
    have h' : List.lookup x ((if (k₀ == NameKind.free && sc.kind == .function && sc.names.lookup n == some .cell) = true then (n, NameKind.cell) else (n, k₀)) :: (r.map _)) = some k := h
    cases hx : x == n with
    | true =>
      simp only [List.lookup_cons, hx]
      by_cases hc : (k₀ == NameKind.free && sc.kind == .function && sc.names.lookup n == some .cell) = true
      · rw [if_pos hc] at h'
        simp only [List.lookup_cons, hx] at h'
        cases h'
        simp only [Bool.and_eq_true, beq_iff_eq] at hc
        exact ⟨k₀, rfl, .inr ⟨hc.1.1, rfl⟩⟩
      · rw [if_neg hc] at h'
        simp only [List.lookup_cons, hx] at h'
        cases h'
        exact ⟨_, rfl, .inl rfl⟩
    | false =>
      simp only [List.lookup_cons, hx]
      by_cases hc : (k₀ == NameKind.free && sc.kind == .function && sc.names.lookup n == some .cell) = true
      · rw [if_pos hc] at h'
        simp only [List.lookup_cons, hx] at h'
        exact ih h'
      · rw [if_neg hc] at h'
        simp only [List.lookup_cons, hx] at h'
        exact ih h'
structure BlkOk (N : List Str) (sc scope : Scope) (own : List (Str × Nat)) : Prop where
  kind : scope.kind = .function
  uniq : ∀ y ∈ scope.names, scope.names.lookup y.1 = some y.2
  ix : ∀ p ∈ own, N[p.2]? = some p.1
  free : ∀ y ∈ scope.names, y.2 = .free → sc.names.lookup y.1 = some .cell ∨ sc.names.lookup y.1 = some .free
  own : ∀ y ∈ scope.names, y.2 = .local ∨ y.2 = .cell → y.1 ∈ own.map (·.1) ∨ y.1 ∉ N
def wipe (σ : St) : List Nat → St
  | [] => σ
  | v :: vs => (wipe σ vs).set v none
theorem wipe_length (σ : St) : ∀ vs : List Nat, (wipe σ vs).length = σ.length
  | [] => rfl
  | v :: vs => by unfold wipe; rw [List.length_set, wipe_length σ vs]
theorem wipe_some {σ : St} {i : Nat} {x : V} : ∀ {vs : List Nat}, (wipe σ vs)[i]? = some (some x) → σ[i]? = some (some x) ∧ i ∉ vs
  | [], h => ⟨h, by simp⟩
  | v :: vs, h => by
    unfold wipe at h
    by_cases hi : v = i
    · subst hi
      by_cases hv : v < (wipe σ vs).length
      · rw [List.getElem?_set_self hv] at h; cases h
      · rw [List.getElem?_eq_none (by simpa using hv)] at h; cases h
    · rw [List.getElem?_set_ne hi] at h
      obtain ⟨h1, h2⟩ := wipe_some h
      exact ⟨h1, by simp only [List.mem_cons, not_or]; exact ⟨fun e => hi e.symm, h2⟩⟩
abbrev Cx.blk (X : Cx) (s : Shared) (H : Hp) (scope : Scope) (cenv : Env) (fp : List Addr) : Cx := { X with s_0 := s, H_0 := H, env := cenv, outer := X.stack, ex := fp, fn := fun x => scope.names.lookup x == some .cell, pn := [], xe := fun _ _ => False }
section
variable {X : Cx} {pins : List (Addr × Obj)} {σ : St} {H : Hp} {s : Shared}
theorem block_start {scope : Scope} {own : List (Str × Nat)} {fp : List Addr} (I : Inv X pins σ H s) (ok : BlkOk X.N X.env.scope scope own) (hN : X.N.Nodup) (hfp : ∀ b ∈ fp, FpOk X pins H b ∧ b < s.heap.objs.size) :
    Inv (X.blk s H scope (compEnvC scope (cellsFrom (s.heap.objs.size + 1) scope.names (cloFrom X.env.cells scope.names [])) s.heap.objs.size X.env) fp) [] (wipe σ (own.map (·.2))) H { s with heap := pushCells (s.heap.push { cls := .type "dict", data := .dict #[] }) scope.names } := by
  have hfree : ∀ y ∈ scope.names, y.2 = .free → ∃ c, X.env.cells.lookup y.1 = some c := fun y hy e => by
    rcases ok.free y hy e with k | k
    · exact I.ok.has _ (.inl k)
    · exact I.ok.has _ (.inr k)
  generalize hcenv : compEnvC scope (cellsFrom (s.heap.objs.size + 1) scope.names (cloFrom X.env.cells scope.names [])) s.heap.objs.size X.env = cenv
  have kp : ∀ b o, s.heap.get? b = some o → (pushCells (s.heap.push { cls := .type "dict", data := .dict #[] }) scope.names).get? b = some o := fun b o e => pushCells_keeps _ _ _ _ (Heap.get?_push_of_some _ e)
  have hL : cenv.locals = s.heap.objs.size := by rw [← hcenv]; rfl
  have hcl : cenv.cells = cellsFrom (s.heap.objs.size + 1) scope.names (cloFrom X.env.cells scope.names []) := by rw [← hcenv]; rfl
  have hsc : cenv.scope = relS scope X.env.scope := by rw [← hcenv]; rfl
  rw [← Heap.size_push s.heap { cls := .type "dict", data := .dict #[] }] at hcl
  have cm : ∀ {y c}, (y, c) ∈ cloFrom X.env.cells scope.names [] → X.env.cells.lookup y = some c ∧ c < s.heap.objs.size := fun {y c} hm => by
    rcases cloFrom_mem hm with hm | ⟨h1, rfl⟩
    · cases hm
    · obtain ⟨c, hc⟩ := hfree _ h1 rfl
      rw [hc]
      obtain ⟨w, z⟩ := I.cell _ _ hc
      exact ⟨rfl, z.lt⟩
  have mem : ∀ {y c}, cenv.cells.lookup y = some c → (X.env.cells.lookup y = some c ∧ c < s.heap.objs.size) ∨ (s.heap.objs.size + 1 ≤ c ∧ CellAt (pushCells (s.heap.push { cls := .type "dict", data := .dict #[] }) scope.names) c none) := fun {y c} e => by
    rw [hcl] at e
    rcases cells_mem (PySem.mem_of_lookup e) with hm | ⟨_, h2, h3⟩
    · exact .inl (cm hm)
    · rw [Heap.size_push] at h2; exact .inr ⟨h2, h3⟩
  have look : ∀ {y}, scope.names.lookup y = some .free → ∃ c, cenv.cells.lookup y = some c ∧ X.env.cells.lookup y = some c := fun {y} hl => by
    have hy : (y, NameKind.free) ∈ scope.names := PySem.mem_of_lookup hl
    obtain ⟨c', e'⟩ := mem_lookup (cells_acc (names := scope.names) (n := (s.heap.push { cls := .type "dict", data := .dict #[] }).objs.size) (cloFrom_has (cells := X.env.cells) (acc := []) hy))
    rw [← hcl] at e'
    refine ⟨c', e', ?_⟩
    rw [hcl] at e'
    rcases cells_mem (PySem.mem_of_lookup e') with hm | ⟨h1, _, _⟩
    · exact (cm hm).1
    · have := ok.uniq _ h1
      rw [hl] at this; cases this
  have okB : (X.blk s H scope cenv fp).Ok := by
    refine ⟨I.ok.mod, by show cenv.scope.kind = _; rw [hsc]; exact ok.kind, by show cenv.globals = _; rw [← hcenv]; exact I.ok.glob, by show cenv.builtins = _; rw [← hcenv]; exact I.ok.blt, by show s.heap.objs.size ≤ cenv.locals; rw [hL]; exact Nat.le_refl _,
      fun y z c e1 e2 => ?_, fun y hy => ?_, fun y c z e => ?_, I.ok.hd, I.ok.frames, .inl rfl, fun b hb => ⟨?_, fun y c e z => ?_⟩, I.bs, Nat.le_trans I.ok.bsz I.sz, fun b o e hb => ?_, fun b hb z => ?_, I.stack, I.stkFree⟩
    · have e1 : cenv.cells.lookup y = some c := e1
      have e2 : cenv.cells.lookup z = some c := e2
      rw [hcl] at e1 e2
      refine cells_inj (fun p hp => ?_) (fun y z c a b => I.ok.inj y z c (cm a).1 (cm b).1) (PySem.mem_of_lookup e1) (PySem.mem_of_lookup e2)
      rw [Heap.size_push]
      exact Nat.lt_succ_of_lt (cm (y := p.1) (c := p.2) hp).2
    · show ∃ c, cenv.cells.lookup y = some c
      have key : ∀ k, cenv.kindOf y = some k → (k = .cell ∨ k = .free) → ∃ c, cenv.cells.lookup y = some c := fun k hk hk' => by
        unfold Env.kindOf at hk
        rw [hsc] at hk
        obtain ⟨k', e, r⟩ := lookup_relS hk
        have : k' = .cell ∨ k' = .free := by
          rcases r with rfl | ⟨rfl, _⟩
          · exact hk'
          · exact .inr rfl
        rcases this with rfl | rfl
        · obtain ⟨c, hm⟩ := cells_has (n := (s.heap.push { cls := .type "dict", data := .dict #[] }).objs.size) (acc := cloFrom X.env.cells scope.names []) (PySem.mem_of_lookup e)
          obtain ⟨c', e'⟩ := mem_lookup hm
          exact ⟨c', by rw [hcl]; exact e'⟩
        · obtain ⟨c, h1, _⟩ := look e
          exact ⟨c, h1⟩
      rcases hy with hy | hy
      · exact key _ hy (.inl rfl)
      · exact key _ hy (.inr rfl)
    · have z : (scope.names.lookup y == some NameKind.cell) = true := z
      have z : scope.names.lookup y = some .cell := by simpa using z
      have e : cenv.cells.lookup y = some c := e
      rw [hcl] at e
      rcases cells_mem (PySem.mem_of_lookup e) with hm | ⟨_, h2, _⟩
      · rcases cloFrom_mem hm with hm | ⟨h1, _⟩
        · cases hm
        · have q := ok.uniq _ h1
          rw [z] at q; cases q
      · rw [Heap.size_push] at h2
        exact Nat.le_of_succ_le h2
    · show b ≠ cenv.locals
      rw [hL]; exact Nat.ne_of_lt (hfp b hb).2
    · have e : cenv.cells.lookup y = some c := e
      rcases mem e with ⟨h1, _⟩ | ⟨h1, _⟩
      · exact (hfp b hb).1.2.2.2.2.1 y c h1 z
      · have h2 : s.heap.objs.size + 1 ≤ b := by rw [← z]; exact h1
        exact absurd (Nat.lt_of_lt_of_le (hfp b hb).2 (Nat.le_of_succ_le h2)) (Nat.lt_irrefl _)
    · rcases (hfp b hb).1.2.2.2.1 with z | z
      · exact I.ok.noex b o e z
      · exact absurd (Nat.lt_of_lt_of_le (Heap.lt_size e) (Nat.le_trans I.ok.bsz z)) (Nat.lt_irrefl _)
    · rcases List.mem_cons.mp (I.stkSub b z) with z | z
      · exact (hfp b hb).1.2.1 z
      · exact (hfp b hb).1.2.2.1 z
  refine ⟨okB, rfl, I.bare, Un.kept kp, ⟨fun _ => none, ?_, fun i y av e1 e2 e3 => ?_⟩, fun y c e => ?_, ?_, fun y c e => ?_, fun p hp => ?_, I.hok.kept kp, by rw [wipe_length]; exact I.len⟩
  · show Heap.Ns _ cenv.locals _
    rw [hL]
    exact Heap.Ns.keeps (Heap.Ns.new ..) fun b o e => pushCells_keeps _ _ _ _ e
  · obtain ⟨e2, hne⟩ := wipe_some e2
    have hfr : scope.names.lookup y = some .free ∧ (cenv.kindOf y = some .cell ∨ cenv.kindOf y = some .free) := by
      have key : ∀ k, cenv.scope.names.lookup y = some k → k = .local ∨ k = .cell ∨ k = .free → scope.names.lookup y = some .free ∧ (cenv.kindOf y = some .cell ∨ cenv.kindOf y = some .free) := fun k hk hk' => by
        have hk0 := hk
        rw [hsc] at hk
        obtain ⟨k', e, r⟩ := lookup_relS hk
        have no : ¬ (k' = .local ∨ k' = .cell) := fun hh => by
          rcases ok.own _ (PySem.mem_of_lookup e) hh with e' | e'
          · obtain ⟨p, hp, hpy⟩ := List.mem_map.mp e'
            have e3 := ok.ix p hp
            have : p.1 = y := hpy
            rw [this] at e3
            exact hne (List.mem_map.mpr ⟨p, hp, nodup_ix hN e3 e1⟩)
          · exact e' (List.mem_of_getElem? e1)
        rcases r with rfl | ⟨rfl, rfl⟩
        · rcases hk' with rfl | rfl | rfl
          · exact absurd (.inl rfl) no
          · exact absurd (.inr rfl) no
          · exact ⟨e, .inr hk0⟩
        · exact ⟨e, .inl hk0⟩
      have e3 : Vis cenv.scope y := e3
      rcases e3 with e3 | e3 | e3
      · exact key _ e3 (.inl rfl)
      · exact key _ e3 (.inr (.inl rfl))
      · exact key _ e3 (.inr (.inr rfl))
    obtain ⟨m, hn, hl⟩ := I.loc
    have hvis : Vis X.env.scope y := (ok.free _ (PySem.mem_of_lookup hfr.1) rfl).elim (fun k => .inr (.inl k)) (fun k => .inr (.inr k))
    obtain ⟨w, r, q⟩ := hl i y av e1 e2 hvis
    refine ⟨w, r, .inr ⟨hfr.2, ?_⟩⟩
    obtain ⟨c, h1, h2⟩ := look hfr.1
    rcases q with ⟨k, _⟩ | ⟨_, c', e', z⟩
    · have k : X.env.scope.names.lookup y = some .local := k
      rcases ok.free _ (PySem.mem_of_lookup hfr.1) rfl with k' | k' <;> rw [show X.env.scope.names.lookup y = _ from k'] at k <;> cases k
    · rw [h2] at e'; cases e'
      exact ⟨c, h1, z.keeps kp⟩
  · have e : cenv.cells.lookup y = some c := e
    rcases mem e with ⟨h1, _⟩ | ⟨_, z⟩
    · obtain ⟨w, z⟩ := I.cell y c h1
      exact ⟨w, z.keeps kp⟩
    · exact ⟨_, z⟩
  · show H cenv.locals = none
    rw [hL]; exact I.hok.fresh (Nat.le_refl _)
  · have e : cenv.cells.lookup y = some c := e
    rcases mem e with ⟨h1, _⟩ | ⟨h1, _⟩
    · exact I.freeC y c h1
    · exact I.hok.fresh (Nat.le_of_succ_le h1)
  · exact absurd (show p ∈ ([] : List (Addr × Obj)) ++ [] from hp) (by simp)
theorem app_ok {E : Value → Shared → Prop} {D : Addr} {xs : List V} {y : V} {v : Value} {Q : Value → Shared → Prop} (I : Inv X pins σ H s) (hD : H D = some (.lst xs)) (hz : xs.length < sizeLine) (r : RelV y v)
    (h : ∀ s', Inv X pins σ (upd H D (.lst (xs ++ [y]))) s' → Q .none s') : wpAny (model X.prog X.w) X.A (call (.builtin "list.append") [.ref D, v]) Q E s := by
  obtain ⟨hz', its, n, ri, e⟩ := I.hok D _ hD
  have hl := ri.length
  refine append_at (hsz := by rw [List.size_toArray]; omega) e fun h' sb ho' => ?_
  refine h { s with heap := h' } (I.write (t' := s.toks) (by rw [hD]; trivial) (.inl rfl) (fun b u hb q => (sb.2 b hb).trans q) ⟨_, ho'⟩ ⟨by rw [List.length_append]; exact hz, its ++ [v], n + 1, ri.append (.cons r .nil), ?_⟩)
  rw [ho']
  simp
def PTs (X : Cx) (ifs : List Expr) (t : TT) : Prop :=
  ∀ (pins : List (Addr × Obj)) (s : Shared) (σ : St) (H : Hp) (Q : Bool → Hp → Prop), Inv X pins σ H s → t σ H Q →
    wpAny (model X.prog X.w) X.A (forIn ifs true fun c r => if r = true then do let ok ← isTrue c X.env (eval c X.env); pure (ForInStep.yield ok) else pure (ForInStep.yield r)) (TP X pins σ Q) X.xe s
def tYes : TT := fun _ H Q => Q true H
theorem pts_nil : PTs X [] tYes := fun _ _ _ H _ I h => wpAny_tests_nil ⟨H, I, h⟩
theorem pts_one {c : Expr} {t : TT} (h : PT X c t) : PTs X [c] t := fun pins s σ H Q I hw => wpAny_tests_one (h pins s σ H Q I hw)
end
theorem thnF {α : Type} {t : Sem α} {Q Q' : α → Shared → Prop} {M : Model} {A : Around} {E : Value → Shared → Prop} {s : Shared} (h : wpAny M A t Q (fun _ _ => False) s) (hQ : ∀ a s, Q a s → Q' a s) : wpAny M A t Q' E s := wpAny_mono h hQ fun _ _ z => False.elim z
theorem compLoop_any {prog : Program} {w : World} {A : Around} {R : Result → Shared → Prop} {s : Shared} {elt target iter : Expr} {ifs : List Expr} {scope : Scope} {pos : Pos} {it acc : Value} {env : Env} (I : Nat → Shared → Prop)
    (turn : ∀ n s, I n s → wpAny (model prog w) A (pyNext it) (fun r s₁ => match r with
      | none => R (.ok .next) s₁
      | some v => wpAny (model prog w) A (letOwnedTupleGo target it v) (fun _ s₁' => wpAny (model prog w) A (assign target env v) (fun _ s₂ =>
          wpAny (model prog w) A (forIn ifs true fun c r => if r = true then do let ok ← isTrue c env (eval c env); pure (ForInStep.yield ok) else pure (ForInStep.yield r)) (fun ok s₃ =>
            if ok = true then wpAny (model prog w) A (eval elt env) (fun x s₄ =>
              wpAny (model prog w) A (call (.builtin "list.append") [acc, x]) (fun _ s₅ => ∃ m, m < n ∧ I m s₅) (notedBy (model prog w) A env fun e s' => R (.error e) s') s₄) (notedBy (model prog w) A env fun e s' => R (.error e) s') s₃
            else ∃ m, m < n ∧ I m s₃) (notedBy (model prog w) A env fun e s' => R (.error e) s') s₂) (notedBy (model prog w) A env fun e s' => R (.error e) s') s₁') (notedBy (model prog w) A env fun e s' => R (.error e) s') s₁) (notedBy (model prog w) A env fun e s' => R (.error e) s') s)
    (n : Nat) (h : I n s) :
    codeAny (model prog w) A (.compLoop (.ListComp elt [⟨target, iter, ifs, 0⟩] scope pos) 0 it acc env) R s := by
  refine codeAny_loop rfl I (fun n s hI => ?_) n h
  show wpAny _ A ((compTurn (.ListComp elt [⟨target, iter, ifs, 0⟩] scope pos) 0 it acc env).onRaise (fun x => do noteFrame x env; theTreesLotGoes x)) _ _ s
  refine wpAny_noted ?_
  rw [compTurn_list]
  refine wpAny_bind (wpAny_standAt (wpAny_bind (wpAny_mono (turn n s hI) (fun r s₁ h₁ => ?_) fun _ _ h' => h')))
  cases r with
  | none => exact wpAny_pure h₁
  | some v =>
    refine wpAny_bind (wpAny_mono h₁ (fun _ s₁' h₁' => ?_) fun _ _ h' => h')
    refine wpAny_bind (wpAny_mono h₁' (fun _ s₂ h₂ => wpAny_bind (wpAny_mono h₂ (fun ok s₃ h₃ => ?_) fun _ _ h' => h')) fun _ _ h' => h')
    cases ok with
    | false => exact wpAny_pure ⟨rfl, h₃⟩
    | true =>
      exact wpAny_bind (wpAny_bind (wpAny_mono h₃ (fun x s₄ h₄ => wpAny_bind (wpAny_mono h₄ (fun _ s₅ h₅ => wpAny_pure (wpAny_pure ⟨rfl, h₅⟩)) fun _ _ h' => h')) fun _ _ h' => h'))
section
variable {X : Cx}
def tLc (wi : TI) (g : TG) (tt : TT) (te : TE) (vs : List Nat) : TE := fun σ H Q => wi σ H fun J H1 => ∀ D, H1 D = none → ∃ W : Nat → Nat → Hp → Prop, (∃ m, W 0 m (upd H1 D (.lst []))) ∧ ∀ i m H, W i m H →
  (J.stop i H ∧ Q (.ref D) H) ∨ (J.go i H ∧ ∃ Nx : Hp → Prop, (∀ H', Nx H' → ∃ m', m' < m ∧ W (i + 1) m' H') ∧ ∀ x H', J.yld i H x H' → g x (wipe σ vs) H' fun σ2 H2 => wipe σ2 vs = wipe σ vs ∧ tt σ2 H2 fun b H3 =>
    if b = true then te σ2 H3 fun y H4 => ∃ acc, H4 D = some (.lst acc) ∧ acc.length < sizeLine ∧ Nx (upd H4 D (.lst (acc ++ [y]))) else Nx H3)
theorem lc_core {pins : List (Addr × Obj)} {s : Shared} {σ : St} {H : Hp} {Q : VK} {elt tg iter : Expr} {ifs : List Expr} {scope : Scope} {own : List (Str × Nat)} {pos pos' : Pos} {wi : TI} {g : TG} {tt : TT} {te : TE} {use : Option (Value → Sem Unit)} {Qf : Value → Shared → Prop}
    (hc : X.calm = true) (hN : X.N.Nodup) (I : Inv X pins σ H s) (hi : PI X tg iter wi) (ok : BlkOk X.N X.env.scope scope own)
    (hg : ∀ (s : Shared) (H : Hp) (C : Addr) (cl : List (Str × Addr)) (fp : List Addr), PG (X.blk s H scope (compEnvC scope cl C X.env) fp) tg g) (ht : ∀ (s : Shared) (H : Hp) (C : Addr) (cl : List (Str × Addr)) (fp : List Addr), PTs (X.blk s H scope (compEnvC scope cl C X.env) fp) ifs tt)
    (he : ∀ (s : Shared) (H : Hp) (C : Addr) (cl : List (Str × Addr)) (fp : List Addr), PE (X.blk s H scope (compEnvC scope cl C X.env) fp) elt te) (hs : ∀ x, foldedSetIterable iter X.env x = pure x)
    (h : tLc wi g tt te (own.map (·.2)) σ H Q)
    (hRR : ∀ D C s' m H', Inv X pins σ H' s' → Q (.ref D) H' → s'.heap.Ns C m → FpOk X pins H' C → compPost (model X.prog X.w) X.A X.xe use Qf (.ref D) C (.ok .next) s') :
    wpAny (model X.prog X.w) X.A (comprehension (.ListComp elt [⟨tg, iter, ifs, 0⟩] scope pos) scope X.env pos' (newList []) false (eval iter X.env) use) Qf X.xe s := by
  have hfree : ∀ y ∈ scope.names, y.2 = .free → ∃ c, X.env.cells.lookup y.1 = some c := fun y hy e => by
    rcases ok.free y hy e with k | k
    · exact I.ok.has _ (.inl k)
    · exact I.ok.has _ (.inr k)
  refine wpAny_comprehension_free (use := use) rfl hs (closure_ok hfree) ok.kind (fun y hy e => by rw [ok.uniq y hy, e])
    (thn (hi pins s σ H _ I h) fun xv s1 hx => thn hx fun itv s2 h2 => ?_)
  obtain ⟨it, fp, tn, J, H2, e, I2, T, st2, f2, q⟩ := h2
  subst e
  refine wpAny_newObj_type (newEnv_comp ?_) (by show 0 ≤ sizeLine; decide)
  generalize hD : s2.heap.objs.size = D
  have hDn : H2 D = none := I2.hok.fresh (Nat.le_of_eq hD)
  obtain ⟨W, ⟨m0, w0⟩, turn⟩ := q D hDn
  -- the new list
  generalize hs3 : ({ s2 with heap := s2.heap.push { cls := .type "list", data := .seq ([] : List Value).toArray } } : Shared) = s3
  have I3 : Inv X pins σ (upd H2 D (.lst [])) s3 := by
    rw [← hs3]
    refine I2.laid (t' := s2.toks) (fun b o e => Heap.get?_push_of_some _ e) (Nat.le_of_eq hD) ⟨Nat.zero_le _, [], 0, .nil, ?_⟩
    rw [← hD]
    exact Heap.get?_push_size _ rfl
  have h3 : s3.heap = s2.heap.push { cls := .type "list", data := .seq ([] : List Value).toArray } := by rw [← hs3]
  have sz : ∀ b ∈ fp, b < s2.heap.objs.size := fun b hb => by
    obtain ⟨o, e, _⟩ := T.obj _ _ st2 b hb
    exact Heap.lt_size e
  have f3 : ∀ b ∈ fp, FpOk X pins (upd H2 D (.lst [])) b ∧ b < s3.heap.objs.size := fun b hb => by
    have hlt := sz b hb
    refine ⟨⟨?_, (f2 b hb).2⟩, by rw [h3, Heap.size_push]; exact Nat.lt_succ_of_lt hlt⟩
    rw [upd_ne (by rw [← hD]; exact Nat.ne_of_lt hlt)]
    exact (f2 b hb).1
  have st3 : tn 0 s3.heap := T.keep _ _ _ st2 fun b _ o e => by rw [h3]; exact Heap.get?_push_of_some _ e
  have I4 := block_start I3 ok hN f3
  have pg := hg s3 (upd H2 D (.lst [])) s3.heap.objs.size (cellsFrom (s3.heap.objs.size + 1) scope.names (cloFrom X.env.cells scope.names [])) fp
  have pt := ht s3 (upd H2 D (.lst [])) s3.heap.objs.size (cellsFrom (s3.heap.objs.size + 1) scope.names (cloFrom X.env.cells scope.names [])) fp
  have pe := he s3 (upd H2 D (.lst [])) s3.heap.objs.size (cellsFrom (s3.heap.objs.size + 1) scope.names (cloFrom X.env.cells scope.names [])) fp
  show codeAny _ _ (.compStart (.ListComp elt [⟨tg, iter, ifs, 0⟩] scope pos) 0 (.ref it) (.ref D) (compEnvC scope (cellsFrom (s3.heap.objs.size + 1) scope.names (cloFrom X.env.cells scope.names [])) s3.heap.objs.size X.env)) (compPost (model X.prog X.w) X.A X.xe use Qf (.ref D) s3.heap.objs.size) { s3 with heap := pushCells (s3.heap.push { cls := .type "dict", data := .dict #[] }) scope.names }
  have nfp : ∀ b ∈ fp, (upd H2 D (.lst [])) b = none := fun b hb => (f3 b hb).1.1
  generalize hce : compEnvC scope (cellsFrom (s3.heap.objs.size + 1) scope.names (cloFrom X.env.cells scope.names [])) s3.heap.objs.size X.env = ce at I4 pg pt pe ⊢
  have cL : ce.locals = s3.heap.objs.size := by subst hce; rfl
  generalize hH3 : upd H2 D (.lst []) = H3 at I3 I4 pg pt pe w0 nfp f3
  generalize hs4 : ({ s3 with heap := pushCells (s3.heap.push { cls := .type "dict", data := .dict #[] }) scope.names } : Shared) = s4 at I4 ⊢
  have st4 : tn 0 s4.heap := T.keep _ _ _ st3 fun b _ o e => by rw [← hs4]; exact pushCells_keeps _ _ _ _ (Heap.get?_push_of_some _ e)
  have stat : ∀ {σ' : St} {H' : Hp} {s' : Shared}, Inv (X.blk s3 H3 scope ce fp) [] σ' H' s' → (∀ b ∈ fp, H' b = none) → ∀ b ∈ fp, FpOk (X.blk s3 H3 scope ce fp) [] H' b := fun {σ' H' s'} I' hn b hb =>
    ⟨hn b hb, (I'.ok.exf b hb).1, I'.ok.exfs b hb, .inl hb, fun x c e => (I'.ok.exf b hb).2 x c e, fun p hp => absurd (show p ∈ ([] : List (Addr × Obj)) ++ [] from hp) (by simp)⟩
  have loop : codeAny (model X.prog X.w) X.A (.compLoop (.ListComp elt [⟨tg, iter, ifs, 0⟩] scope pos) 0 (.ref it) (.ref D) ce) (compPost (model X.prog X.w) X.A X.xe use Qf (.ref D) s3.heap.objs.size) s4 := by
    refine compLoop_any (fun n s' => ∃ i H', Inv (X.blk s3 H3 scope ce fp) [] (wipe σ (own.map (·.2))) H' s' ∧ tn i s'.heap ∧ (∀ b ∈ fp, H' b = none) ∧ W i n H') ?_ m0 ⟨0, H3, I4, st4, nfp, w0⟩
    rintro n s5 ⟨i, H5, I5, st5, n5, w5⟩
    rcases turn i n H5 w5 with ⟨stop, qq⟩ | ⟨go, Nx, hNx, step⟩
    · have td := T.done (X.blk s3 H3 scope ce fp) rfl rfl rfl hc i [] s5 _ H5 (fun _ _ => False) I5 (stat I5 n5) st5 stop
      refine thnF td fun r s6 ⟨hr, I6⟩ => ?_
      subst hr
      -- back in the def's context
      have I7 : Inv X pins σ H5 s6 := I3.call' (ch := fp) I6.os I6.base I6.hok I6.bare fun b hb => ⟨(f3 b hb).1.2.2.2.1, (f3 b hb).1.2.1, (f3 b hb).1.2.2.2.2.1, (f3 b hb).1.2.2.2.2.2⟩
      have nC : H5 s3.heap.objs.size = none := by
        have z : H5 ce.locals = none := I6.free
        rw [cL] at z
        exact z
      obtain ⟨m, hn, _⟩ := I6.loc
      have hn : s6.heap.Ns ce.locals m := hn
      rw [cL] at hn
      exact hRR D s3.heap.objs.size s6 m H5 I7 qq hn (I3.fpOk (Nat.le_refl _) nC)
    · have ti := T.item (X.blk s3 H3 scope ce fp) rfl rfl rfl hc i [] s5 _ H5 (fun _ _ => False) I5 (stat I5 n5) st5 go
      refine thnF ti fun r s6 ⟨u, hr, h6⟩ => ?_
      subst hr
      refine thnF h6 fun _ s7 ⟨x, H7, I7, r7, y7, st7, n7⟩ => ?_
      have I7' := I7.pinned (stat I7 n7) (T.obj _ _ st7)
      refine thnF (pg _ s7 _ H7 x u _ I7' r7 (step x H7 y7)) fun _ s8 ⟨σ8, H8, I8, hw8, q8⟩ => ?_
      refine thnF (pt _ s8 σ8 H8 _ I8 q8) fun b s9 ⟨H9, I9, q9⟩ => ?_
      -- the turn's end
      have fin : ∀ {s' : Shared} {H' : Hp}, Inv (X.blk s3 H3 scope ce fp) ([] ++ pinsAt fp s7.heap) σ8 H' s' → Nx H' → ∃ m, m < n ∧ ∃ i H', Inv (X.blk s3 H3 scope ce fp) [] (wipe σ (own.map (·.2))) H' s' ∧ tn i s'.heap ∧ (∀ b ∈ fp, H' b = none) ∧ W i m H' := fun {s' H'} I' nx => by
        obtain ⟨m', hm, w'⟩ := hNx H' nx
        have pin' : ∀ b ∈ fp, ∀ o, s7.heap.get? b = some o → s'.heap.get? b = some o ∧ H' b = none := fun b hb o e =>
          let z := I'.pin (b, o) (List.mem_append_right _ (List.mem_append_right _ (mem_pinsAt hb e)))
          ⟨z.1, z.2.1⟩
        have hl : (wipe σ (own.map (·.2))).length = σ8.length := by rw [← hw8, wipe_length]
        refine ⟨m', hm, i + 1, H', (I'.unpinned (pins := [])).weak hl (fun j v e => ?_), T.keep _ _ _ st7 fun b hb o e => (pin' b hb o e).1, fun b hb => ?_, w'⟩
        · rw [← hw8] at e
          exact (wipe_some e).1
        · obtain ⟨o, e, _⟩ := T.obj _ _ st7 b hb
          exact (pin' b hb o e).2
      cases b with
      | false =>
        simp only [Bool.false_eq_true, if_false] at q9 ⊢
        exact fin I9 q9
      | true =>
        simp only [if_true] at q9 ⊢
        refine thnF (pe _ s9 σ8 H9 _ I9 q9) fun z s10 ⟨yv, H10, I10, r10, acc, hD10, hz10, nx⟩ => ?_
        exact app_ok (X := X.blk s3 H3 scope ce fp) I10 hD10 hz10 r10 fun s11 I11 => fin I11 nx
  exact codeAny_compStart_list loop (T.self X.A 0 _ _ _ st4 loop)
theorem pe_lc {elt tg iter : Expr} {ifs : List Expr} {scope : Scope} {own : List (Str × Nat)} {pos : Pos} {wi : TI} {g : TG} {tt : TT} {te : TE} (hc : X.calm = true) (hN : X.N.Nodup) (hi : PI X tg iter wi) (ok : BlkOk X.N X.env.scope scope own)
    (hg : ∀ (s : Shared) (H : Hp) (C : Addr) (cl : List (Str × Addr)) (fp : List Addr), PG (X.blk s H scope (compEnvC scope cl C X.env) fp) tg g) (ht : ∀ (s : Shared) (H : Hp) (C : Addr) (cl : List (Str × Addr)) (fp : List Addr), PTs (X.blk s H scope (compEnvC scope cl C X.env) fp) ifs tt)
    (he : ∀ (s : Shared) (H : Hp) (C : Addr) (cl : List (Str × Addr)) (fp : List Addr), PE (X.blk s H scope (compEnvC scope cl C X.env) fp) elt te) (hs : ∀ x, foldedSetIterable iter X.env x = pure x := by intro _; rfl) :
    PE X (.ListComp elt [⟨tg, iter, ifs, 0⟩] scope pos) (tLc wi g tt te (own.map (·.2))) := by
  intro pins s σ H Q I h
  rw [eval_ListComp]
  refine lc_core hc hN I hi ok hg ht he hs h fun D C s' m H' I' q hn f => ⟨m, hn, fun h'' sb => ?_⟩
  obtain ⟨f0, f1, f2, f3, f4, f5⟩ := f
  exact ⟨.ref D, H', I'.turned (t' := s'.toks) (fun b o hb e => (sb.2 b hb).trans e) f0 f1 f3 f4 f5, rfl, q⟩
end
def blkC (N : List Str) (sc scope : Scope) (own : List (Str × Nat)) : Bool :=
  (match scope.kind with | .function => true | _ => false) && (scope.names.all fun y => decide (scope.names.lookup y.1 = some y.2)) && (own.all fun p => decide (N[p.2]? = some p.1)) &&
    (scope.names.all fun y => match y.2 with
      | .free => (match sc.names.lookup y.1 with | some .cell => true | some .free => true | _ => false)
      | .local => decide (y.1 ∈ own.map (·.1)) || decide (y.1 ∉ N)
      | .cell => decide (y.1 ∈ own.map (·.1)) || decide (y.1 ∉ N)
      | _ => true)
theorem blkOk_by {N : List Str} {sc scope : Scope} {own : List (Str × Nat)} (h : blkC N sc scope own = true) : BlkOk N sc scope own := by
  unfold blkC at h
  simp only [Bool.and_eq_true, List.all_eq_true, decide_eq_true_eq] at h
  obtain ⟨⟨⟨h1, h2⟩, h3⟩, h4⟩ := h
  refine ⟨?_, h2, h3, fun y hy e => ?_, fun y hy e => ?_⟩
  · split at h1
    · assumption
    · cases h1
  · have q := h4 y hy
    simp only [e] at q
    split at q <;> first | exact .inl (by assumption) | exact .inr (by assumption) | cases q
  · have q := h4 y hy
    rcases e with e | e <;> (simp only [e, Bool.or_eq_true, decide_eq_true_eq] at q; exact q)
end L2
namespace L2
open PySem PySem.Spec PyProof.Rows
section
variable {prog : Program} {w : World} {A : Around} {R : Result → Shared → Prop} {s : Shared} {elt t0 i0 t1 i1 : Expr} {ifs0 ifs1 : List Expr} {scope : Scope} {pos : Pos} {it acc : Value} {env : Env}
end
theorem wipe_out {σ : St} {i : Nat} : ∀ {vs : List Nat}, i ∉ vs → (wipe σ vs)[i]? = σ[i]?
  | [], _ => rfl
  | v :: vs, h => by
    have h1 : v ≠ i := fun e => h (by rw [e]; exact List.mem_cons_self)
    have h2 : i ∉ vs := fun m => h (List.mem_cons_of_mem _ m)
    unfold wipe
    rw [List.getElem?_set_ne h1]
    exact wipe_out h2
section
variable {X : Cx}
end
end L2
namespace L2
open PySem PySem.Spec PyProof.Rows
section
variable {κ : Type} [DecidableEq κ]
def valV (kvs : List (κ × V)) (k : κ) : Option V := (kvs.find? fun kv => decide (kv.1 = k)).map (·.2)
def putK (kvs : List (κ × V)) (k : κ) (v : V) : List (κ × V) :=
  if (kvs.any fun kv => decide (kv.1 = k)) = true then kvs.map (fun kv => if kv.1 = k then (kv.1, v) else kv) else kvs ++ [(k, v)]
def dropK (kvs : List (κ × V)) (k : κ) : List (κ × V) := kvs.filter fun kv => decide (kv.1 ≠ k)
theorem valV_pos {p : κ × V} {r : List (κ × V)} {k : κ} (e : p.1 = k) : valV (p :: r) k = some p.2 := by simp [valV, List.find?_cons, e]
theorem valV_neg {p : κ × V} {r : List (κ × V)} {k : κ} (e : ¬ p.1 = k) : valV (p :: r) k = valV r k := by simp [valV, List.find?_cons, e]
theorem valV_any (k : κ) : ∀ kvs : List (κ × V), (kvs.any fun kv => decide (kv.1 = k)) = (valV kvs k).isSome
  | [] => rfl
  | p :: r => by
    rw [List.any_cons]
    by_cases e : p.1 = k
    · simp only [valV_pos e, decide_eq_true e, Bool.true_or, Option.isSome_some]
    · rw [valV_neg e, decide_eq_false e, Bool.false_or]; exact valV_any k r
theorem length_putK (kvs : List (κ × V)) (k : κ) (v : V) : (putK kvs k v).length ≤ kvs.length + 1 := by
  unfold putK
  split
  · rw [List.length_map]; omega
  · rw [List.length_append, List.length_cons, List.length_nil]; omega
theorem RelO.isSome_eq {o : Option V} {u : Option Value} (r : RelO o u) : o.isSome = u.isSome := by
  cases o with
  | none => cases u with
    | none => rfl
    | some _ => exact (show False from r).elim
  | some _ => cases u with
    | none => exact (show False from r).elim
    | some _ => rfl
theorem RelO.getD {o : Option V} {u : Option Value} {d : V} {d' : Value} (r : RelO o u) (rd : RelV d d') : RelV (o.getD d) (u.getD d') := by
  cases o with
  | none => cases u with
    | none => exact rd
    | some _ => exact (show False from r).elim
  | some _ => cases u with
    | none => exact (show False from r).elim
    | some _ => exact r
theorem KV.val {kvs : List (κ × V)} {vs : List (κ × Value)} (r : KV kvs vs) (k : κ) : RelO (valV kvs k) (valueAt vs k) := by
  unfold KV at r
  induction r with
  | nil => exact True.intro
  | @cons p q ps qs h t ih =>
    obtain ⟨h1, h2⟩ := h
    by_cases e : p.1 = k
    · have e' : q.1 = k := h1.symm.trans e
      have b : valueAt (q :: qs) k = some q.2 := by simp [valueAt, List.find?_cons, e']
      rw [valV_pos e, b]; exact h2
    · have e' : ¬ q.1 = k := fun z => e (h1.trans z)
      have b : valueAt (q :: qs) k = valueAt qs k := by simp [valueAt, List.find?_cons, e']
      rw [valV_neg e, b]; exact ih
theorem KV.any {kvs : List (κ × V)} {vs : List (κ × Value)} (r : KV kvs vs) (k : κ) : (kvs.any fun kv => decide (kv.1 = k)) = vs.any fun kv => decide (kv.1 = k) := by
  unfold KV at r
  induction r with
  | nil => rfl
  | cons h t ih => rw [List.any_cons, List.any_cons, ih, h.1]
theorem KV.repl {kvs : List (κ × V)} {vs : List (κ × Value)} (r : KV kvs vs) (k : κ) {y : V} {u : Value} (ry : RelV y u) :
    KV (kvs.map fun kv => if kv.1 = k then (kv.1, y) else kv) (vs.map fun kv => if kv.1 = k then (kv.1, u) else kv) := by
  unfold KV at r ⊢
  induction r with
  | nil => exact .nil
  | @cons p q ps qs h t ih =>
    rw [List.map_cons, List.map_cons]
    refine .cons ?_ ih
    obtain ⟨h1, h2⟩ := h
    by_cases e : p.1 = k
    · rw [if_pos e, if_pos (h1.symm.trans e)]; exact ⟨h1, ry⟩
    · rw [if_neg e, if_neg (fun z => e (h1.trans z))]; exact ⟨h1, h2⟩
theorem KV.put {kvs : List (κ × V)} {vs : List (κ × Value)} (r : KV kvs vs) (k : κ) {y : V} {u : Value} (ry : RelV y u) : KV (putK kvs k y) (stored vs k u) := by
  unfold putK stored
  rw [r.any k]
  by_cases e : (vs.any fun kv => decide (kv.1 = k)) = true
  · rw [if_pos e, if_pos e]; exact r.repl k ry
  · rw [if_neg e, if_neg e]; exact Paired.snoc r ⟨rfl, ry⟩
theorem KV.drop {kvs : List (κ × V)} {vs : List (κ × Value)} (r : KV kvs vs) (k : κ) : KV (dropK kvs k) (without vs k) := by
  unfold KV at r ⊢
  unfold dropK without
  induction r with
  | nil => exact .nil
  | @cons p q ps qs h t ih =>
    obtain ⟨h1, h2⟩ := h
    rw [List.filter_cons, List.filter_cons]
    by_cases e : p.1 = k
    · have a : ¬ decide (p.1 ≠ k) = true := by simp [e]
      have b : ¬ decide (q.1 ≠ k) = true := by simp [h1.symm.trans e]
      rw [if_neg a, if_neg b]; exact ih
    · have e' : ¬ q.1 = k := fun z => e (h1.trans z)
      have a : decide (p.1 ≠ k) = true := by simp [e]
      have b : decide (q.1 ≠ k) = true := by simp [e']
      rw [if_pos a, if_pos b]; exact .cons ⟨h1, h2⟩ ih
theorem KV.keys {kvs : List (κ × V)} {vs : List (κ × Value)} (r : KV kvs vs) : kvs.map (·.1) = vs.map (·.1) := by
  unfold KV at r
  induction r with
  | nil => rfl
  | cons h t ih => rw [List.map_cons, List.map_cons, ih, h.1]
theorem KV.length {kvs : List (κ × V)} {vs : List (κ × Value)} (r : KV kvs vs) : kvs.length = vs.length := Paired.length r
end
theorem kV_is {P : Program} {w : World} {k : Key} {u : Value} (r : RelV (kV k) u) : (mixKind P w).is k u = true := by
  cases k with
  | inl i => obtain ⟨t, e⟩ := (show ∃ t, u = Value.int i t from r); subst e; exact mixKind_int P w i t
  | inr x => obtain ⟨t, e⟩ := (show ∃ t, u = Value.str x t from r); subst e; exact mixKind_str P w x t
theorem items_are {P : Program} {w : World} : ∀ {ks : List Key} {us : List Value}, Vals (ks.map kV) us → ItemsAre (mixKind P w) ks us
  | [], _, r => by rw [List.map_nil] at r; cases r; exact .nil
  | k :: ks, _, r => by
    rw [List.map_cons] at r
    cases r with
    | cons h t => exact .cons (kV_is h) (items_are t)
abbrev KT (H : Hp) : List (List Key × V) → List (List Key × Addr × Value) → Prop := Paired fun p q => p.1 = q.1 ∧ H q.2.1 = some (.tup (p.1.map kV)) ∧ RelV p.2 q.2.2
theorem KT.val {H : Hp} {kvs : List (List Key × V)} {xs : List (List Key × Addr × Value)} (r : KT H kvs xs) (k : List Key) : RelO (valV kvs k) ((atKey xs k).map (·.2)) := by
  induction r with
  | nil => exact True.intro
  | @cons p q ps qs h t ih =>
    obtain ⟨h1, _, h2⟩ := h
    by_cases e : p.1 = k
    · have e' : q.1 = k := h1.symm.trans e
      have b : atKey (q :: qs) k = some q.2 := by simp [atKey, List.find?_cons, e']
      rw [valV_pos e, b]; exact h2
    · have e' : ¬ q.1 = k := fun z => e (h1.trans z)
      have b : atKey (q :: qs) k = atKey qs k := by simp [atKey, List.find?_cons, e']
      rw [valV_neg e, b]; exact ih
theorem KT.repl {H : Hp} {kvs : List (List Key × V)} {xs : List (List Key × Addr × Value)} (r : KT H kvs xs) (k : List Key) {y : V} {u : Value} (ry : RelV y u) :
    KT H (kvs.map fun kv => if kv.1 = k then (kv.1, y) else kv) (xs.map (putAt k u)) := by
  induction r with
  | nil => exact .nil
  | @cons p q ps qs h t ih =>
    rw [List.map_cons, List.map_cons]
    refine .cons ?_ ih
    obtain ⟨h1, h2, h3⟩ := h
    unfold putAt
    by_cases e : p.1 = k
    · rw [if_pos e, if_pos (h1.symm.trans e)]; exact ⟨h1, h2, ry⟩
    · rw [if_neg e, if_neg (fun z => e (h1.trans z))]; exact ⟨h1, h2, h3⟩
theorem KT.put {H : Hp} {kvs : List (List Key × V)} {xs : List (List Key × Addr × Value)} (r : KT H kvs xs) (k : List Key) {b : Addr} {y : V} {u : Value} (hb : H b = some (.tup (k.map kV))) (ry : RelV y u) :
    KT H (putK kvs k y) (storedH xs k b u) := by
  have e : (kvs.any fun kv => decide (kv.1 = k)) = (atKey xs k).isSome := by
    rw [valV_any, (r.val k).isSome_eq, Option.isSome_map]
  unfold putK storedH
  rw [e]
  by_cases q : (atKey xs k).isSome = true
  · rw [if_pos q, if_pos q]; exact r.repl k ry
  · rw [if_neg q, if_neg q]; exact Paired.snoc r ⟨rfl, hb, ry⟩
theorem KT.keeps {H H' : Hp} {kvs : List (List Key × V)} {xs : List (List Key × Addr × Value)} (r : KT H kvs xs) (ht : ∀ b ys, H b = some (.tup ys) → H' b = some (.tup ys)) : KT H' kvs xs :=
  Paired.mapP r fun _ _ z => ⟨z.1, ht _ _ z.2.1, z.2.2⟩
section
variable {P : Program} {w : World} {H : Hp} {h : Heap} {a : Addr}
theorem rd_of {u : HO} (ok : HOk P w H h) (e : Rd H a u) : ObjOk P w H h a u := e.ok ok
theorem dk_rd {kvs : List (Key × V)} (ok : HOk P w H h) (e : Rd H a (.dK kvs)) : kvs.length ≤ sizeLine ∧ (a == sysModules) = false ∧ ∃ vs, KV kvs vs ∧ h.DictOf (mixKind P w) a vs :=
  show ObjOk P w H h a (.dK kvs) from rd_of ok e
theorem dk_of {kvs : List (Key × V)} (ok : HOk P w H h) (e : H a = some (.dK kvs)) : kvs.length ≤ sizeLine ∧ (a == sysModules) = false ∧ ∃ vs, KV kvs vs ∧ h.DictOf (mixKind P w) a vs := dk_rd ok (.inl e)
theorem key_of {ks : List Key} (ok : HOk P w H h) (e : H a = some (.tup (ks.map kV))) : (tupleKind (mixKind P w)).is h ks a := by
  obtain ⟨_, its, r, ⟨o, h1, h2, n, h3⟩, _⟩ := (show ObjOk P w H h a (.tup (ks.map kV)) from ok a _ e)
  exact ⟨o, its.toArray, n, h1, h2, h3, by simpa using items_are r⟩
theorem dt_rd {kvs : List (List Key × V)} (ok : HOk P w H h) (e : Rd H a (.dT kvs)) : kvs.length ≤ sizeLine ∧ (a == sysModules) = false ∧
    ∃ xs, KT H kvs xs ∧ h.DictOfH (tupleKind (mixKind P w)) a xs := by
  obtain ⟨z, y, xs, r, o, es, ep, h1, h2, h3, h4, h5⟩ := (show ObjOk P w H h a (.dT kvs) from rd_of ok e)
  refine ⟨z, y, xs, r, o, es, ep, h1, h2, h3, h4, fun x hx => ?_, h5⟩
  have all : ∀ {l : List (List Key × V)} {m : List (List Key × Addr × Value)}, KT H l m → ∀ x ∈ m, (tupleKind (mixKind P w)).is h x.1 x.2.1 := by
    intro l m q
    induction q with
    | nil => intro x hx; exact nomatch hx
    | @cons p q ps qs hq t ih =>
      intro x hx
      rcases List.mem_cons.mp hx with e | hx
      · subst e
        exact key_of ok (by rw [← hq.1]; exact hq.2.1)
      · exact ih x hx
  exact all r x hx
theorem dt_of {kvs : List (List Key × V)} (ok : HOk P w H h) (e : H a = some (.dT kvs)) : kvs.length ≤ sizeLine ∧ (a == sysModules) = false ∧
    ∃ xs, KT H kvs xs ∧ h.DictOfH (tupleKind (mixKind P w)) a xs := dt_rd ok (.inl e)
end
def DGet (H : Hp) (a : Addr) (y : V) (r : Option V) : Prop :=
  (∃ kvs k, Rd H a (.dK kvs) ∧ y = kV k ∧ r = valV kvs k) ∨ ∃ kvs k b, Rd H a (.dT kvs) ∧ y = .ref b ∧ H b = some (.tup (k.map kV)) ∧ r = valV kvs k
def DPut (H : Hp) (a : Addr) (y v : V) (H' : Hp) : Prop :=
  (∃ kvs k, H a = some (.dK kvs) ∧ y = kV k ∧ kvs.length < sizeLine ∧ H' = upd H a (.dK (putK kvs k v))) ∨
  ∃ kvs k b, H a = some (.dT kvs) ∧ y = .ref b ∧ H b = some (.tup (k.map kV)) ∧ kvs.length < sizeLine ∧ H' = upd H a (.dT (putK kvs k v))
theorem DGet.k {H : Hp} {a : Addr} {kvs : List (Key × V)} {k : Key} (e : H a = some (.dK kvs)) : DGet H a (kV k) (valV kvs k) := .inl ⟨kvs, k, .inl e, rfl, rfl⟩
theorem DGet.t {H : Hp} {a b : Addr} {kvs : List (List Key × V)} {k : List Key} (e : H a = some (.dT kvs)) (eb : H b = some (.tup (k.map kV))) : DGet H a (.ref b) (valV kvs k) := .inr ⟨kvs, k, b, .inl e, rfl, eb, rfl⟩
theorem DPut.k {H : Hp} {a : Addr} {kvs : List (Key × V)} {k : Key} {v : V} (e : H a = some (.dK kvs)) (hl : kvs.length < sizeLine) : DPut H a (kV k) v (upd H a (.dK (putK kvs k v))) := .inl ⟨kvs, k, e, rfl, hl, rfl⟩
theorem DPut.t {H : Hp} {a b : Addr} {kvs : List (List Key × V)} {k : List Key} {v : V} (e : H a = some (.dT kvs)) (eb : H b = some (.tup (k.map kV))) (hl : kvs.length < sizeLine) :
    DPut H a (.ref b) v (upd H a (.dT (putK kvs k v))) := .inr ⟨kvs, k, b, e, rfl, eb, hl, rfl⟩
section
variable {X : Cx} {pins : List (Addr × Obj)} {σ : St} {H : Hp} {s : Shared} {a : Addr} {y v : V} {u r : Value} {o : Option V} {A : Around} {E : Value → Shared → Prop}
theorem Inv.big (I : Inv X pins σ H s) : sysModules < s.heap.objs.size := by
  have h : mainGlobals < s.heap.objs.size := (I.mod.glob.keeps I.bk).lt
  exact Nat.lt_trans (by decide) h
theorem d_getItem {Q : Value → Shared → Prop} (hu : A.units + 1 < cLine) (I : Inv X pins σ H s) (g : DGet H a y (some v)) (ry : RelV y u) (h : ∀ w' s', Inv X pins σ H s' → RelV v w' → Q w' s') :
    wpAny (model X.prog X.w) A (getItem (.ref a) u) Q E s := by
  rcases g with ⟨kvs, k, e, ey, l⟩ | ⟨kvs, k, b, e, ey, eb, l⟩
  · subst ey
    obtain ⟨z, hd, vs, rel, dd⟩ := dk_rd I.hok e
    obtain ⟨w', hw, rw'⟩ := RelO.some_of (v := v) (o := valueAt vs k) (by rw [l]; exact rel.val k)
    exact wpAny_getItem_of (kV_is ry) dd.mapOf hw (h w' _ (I.tok _) rw')
  · subst ey
    cases (show u = Value.ref b from ry)
    obtain ⟨z, hd, xs, rel, dd⟩ := dt_rd I.hok e
    obtain ⟨w', hw, rw'⟩ := RelO.some_of (v := v) (o := (atKey xs k).map (·.2)) (by rw [l]; exact rel.val k)
    obtain ⟨p, hp, hp2⟩ := Option.map_eq_some_iff.mp hw
    refine wpAny_getItem_heap (tupleKind_room_in1 hu) (key_of I.hok eb) dd hp ?_
    rw [hp2]
    exact h w' _ (I.tok _) rw'
theorem d_write {h' : Heap} {t' : Nat} {ob : HO} (I : Inv X pins σ H s) (mu : Mut (H a)) (hs : Heap.SameBut a s.heap h') (he : ∃ q, h'.get? a = some q) (new : ObjOk X.prog X.w (upd H a ob) h' a ob) :
    Inv X pins σ (upd H a ob) { s with heap := h', toks := t' } :=
  I.write (x := a) (e := a) mu (.inl rfl) (fun b q hb z => (hs.2 b hb).trans z) he new
theorem dk_new {P : Program} {w : World} {H' : Hp} {h' : Heap} {kvs : List (Key × V)} {vs : List (Key × Value)} (z : kvs.length ≤ sizeLine) (hd : (a == sysModules) = false) (rel : KV kvs vs) (dd : h'.DictOf (mixKind P w) a vs) :
    ObjOk P w H' h' a (.dK kvs) := ⟨z, hd, vs, rel, dd⟩
theorem d_setItem {H' : Hp} {Q : Unit → Shared → Prop} (hu : A.units + 1 < cLine) (I : Inv X pins σ H s) (g : DPut H a y v H') (ry : RelV y u) (rv : RelV v r) (h : ∀ s', Inv X pins σ H' s' → Q () s') :
    wpAny (model X.prog X.w) A (setItem (.ref a) u r) Q E s := by
  rcases g with ⟨kvs, k, e, ey, l, eH⟩ | ⟨kvs, k, b, e, ey, eb, l, eH⟩
  · subst ey eH
    obtain ⟨z, hd, vs, rel, dd⟩ := dk_of I.hok e
    have hz : vs.length ≤ sizeLine := by rw [← rel.length]; exact z
    have hl : (putK kvs k v).length ≤ sizeLine := by have := length_putK kvs k v; omega
    refine wpAny_setItem_pairs (hsz := hz) (kV_is ry) dd fun h' dd' hs => h _ ?_
    have he : ∃ q, h'.get? a = some q := let ⟨q, _, _, hq, _⟩ := dd'; ⟨q, hq⟩
    exact d_write I (by rw [e]; exact True.intro) hs he (dk_new hl hd (rel.put k rv) dd')
  · subst ey eH
    cases (show u = Value.ref b from ry)
    obtain ⟨z, hd, xs, rel, dd⟩ := dt_of I.hok e
    have hz : xs.length ≤ sizeLine := by rw [← Paired.length rel]; exact z
    have hl : (putK kvs k v).length ≤ sizeLine := by have := length_putK kvs k v; omega
    refine wpAny_setItem_heap (hsz := hz) (tupleKind_room_in1 hu) (key_of I.hok eb) dd fun h' dd' hs => h _ ?_
    obtain ⟨q, es, ep, hq, h2, h3, h4, _, h5⟩ := dd'
    refine d_write I (by rw [e]; exact True.intro) hs ⟨q, hq⟩ ⟨hl, hd, _, (rel.put k eb rv).keeps fun c ys ec => ?_, q, es, ep, hq, h2, h3, h4, h5⟩
    rw [upd_ne (ne_of ec e (fun z => nomatch z))]
    exact ec
end
section
variable {X : Cx} {pins : List (Addr × Obj)} {σ : St} {H : Hp} {s : Shared} {a : Addr} {kvs : List (Key × V)} {k : Key} {u : Value} {A : Around} {E : Value → Shared → Prop}
theorem d_len {Q : Value → Shared → Prop} (I : Inv X pins σ H s) (e : Rd H a (.dK kvs)) (h : ∀ t s', Inv X pins σ H s' → Q (.int kvs.length t) s') : wpAny (model X.prog X.w) A (call (.builtin "len") [.ref a]) Q E s := by
  obtain ⟨z, hd, vs, rel, dd⟩ := dk_rd I.hok e
  refine call_len_dict hd dd (by rw [← rel.length]; rw [sizeLine_eq] at z; omega) ?_
  rw [← rel.length]
  exact h _ _ (I.tok _)
end
theorem dict_typeIs {X : Cx} {pins : List (Addr × Obj)} {σ : St} {H : Hp} {s : Shared} {a : Addr} {y : V} {o : Option V} (I : Inv X pins σ H s) (g : DGet H a y o) : s.TypeIs (.ref a) "dict" := by
  rcases g with ⟨kvs, k, e, _, _⟩ | ⟨kvs, k, b, e, _, _, _⟩
  · obtain ⟨_, _, vs, _, dd⟩ := dk_rd I.hok e
    exact dd.typeIs
  · obtain ⟨_, _, xs, _, dd⟩ := dt_rd I.hok e
    exact dd.typeIs
section
variable {X : Cx} {o i e value : Expr} {pos pos' tpos : Pos} {td ty tv : TE}
end
theorem dk_empty {P : Program} {w : World} {H : Hp} (h : Heap) (hb : sysModules < h.objs.size) : ObjOk P w H (h.push { cls := .type "dict", data := .dict #[] }) h.objs.size (.dK []) :=
  ⟨Nat.zero_le _, beq_eq_false_iff_ne.mpr (Ne.symm (Nat.ne_of_lt hb)), [], .nil, Heap.DictOf.new h⟩
def tDNewK : TE := fun _ H Q => ∀ p, H p = none → Q (.ref p) (upd H p (.dK []))
section
variable {X : Cx} {pos : Pos}
theorem pe_dnewK : PE X (.Dict [] [] pos) tDNewK := fun pins s σ H Q I h =>
  wpAny_Dict_empty ⟨.ref s.heap.objs.size, _, I.laid (a := s.heap.objs.size) (o := .dK []) (t' := s.toks) (fun _ _ q => Heap.get?_push_of_some _ q) (Nat.le_refl _) (dk_empty s.heap I.big), rfl, h _ (I.hok.fresh (Nat.le_refl _))⟩
end
def tPairs : List (TE × TE) → St → Hp → (List (V × V) → Hp → Prop) → Prop
  | [], _, H, Q => Q [] H
  | (tk, tv) :: r, σ, H, Q => tk σ H fun x H1 => tv σ H1 fun y H2 => tPairs r σ H2 fun ps H3 => Q ((x, y) :: ps) H3
abbrev VV : List (V × V) → List (Value × Value) → Prop := Paired fun p q => RelV p.1 q.1 ∧ RelV p.2 q.2
def PPs (X : Cx) (pos : Pos) (keys : List (Option Expr)) (values : List Expr) (trs : List (TE × TE)) : Prop :=
  ∀ (pins : List (Addr × Obj)) (s : Shared) (σ : St) (H : Hp) (Q : List (V × V) → Hp → Prop), Inv X pins σ H s → tPairs trs σ H Q →
    wpAny (model X.prog X.w) X.A (evalPairs (pairTrees keys values X.env pos)) (fun vs s' => ∃ ps H', Inv X pins σ H' s' ∧ VV ps vs ∧ Q ps H') X.xe s
theorem pps_nil {X : Cx} {pos : Pos} : PPs X pos [] [] [] := fun pins s σ H Q I h => pairTrees_nil_walk ⟨[], H, I, .nil, h⟩
theorem pps_cons {X : Cx} {pos : Pos} {k v : Expr} {ks : List (Option Expr)} {vs : List Expr} {tk tv : TE} {trs : List (TE × TE)} (hk : PE X k tk) (hv : PE X v tv) (hr : PPs X pos ks vs trs) :
    PPs X pos (some k :: ks) (v :: vs) ((tk, tv) :: trs) := fun pins s σ H Q I h =>
  pairTrees_cons_walk (thn (hk pins s σ H _ I h) fun u s1 ⟨x, H1, I1, rx, q1⟩ => thn (hv pins s1 σ H1 _ I1 q1) fun w2 s2 ⟨y, H2, I2, ry, q2⟩ =>
    thn (hr pins s2 σ H2 _ I2 q2) fun ws s3 ⟨ps, H3, I3, rel, q3⟩ => ⟨(x, y) :: ps, H3, I3, .cons ⟨rx, ry⟩ rel, q3⟩)
def mergeK (kvs more : List (Key × V)) : List (Key × V) := more.foldl (fun acc kv => putK acc kv.1 kv.2) kvs
theorem KV.merge : ∀ {more : List (Key × V)} {rs : List (Key × Value)} {kvs : List (Key × V)} {vs : List (Key × Value)}, KV more rs → KV kvs vs → KV (mergeK kvs more) (merged vs rs) := by
  intro more rs kvs vs r
  unfold KV at r
  induction r generalizing kvs vs with
  | nil => intro q; exact q
  | @cons p q ps qs h t ih =>
    intro r0
    have e : KV (putK kvs p.1 p.2) (stored vs q.1 q.2) := by
      have := r0.put p.1 h.2
      rw [← h.1]; exact this
    exact ih e
theorem length_mergeK : ∀ (more kvs : List (Key × V)), (mergeK kvs more).length ≤ kvs.length + more.length
  | [], kvs => by show kvs.length ≤ kvs.length + 0; omega
  | p :: r, kvs => by
    have h1 := length_mergeK r (putK kvs p.1 p.2)
    have h2 := length_putK kvs p.1 p.2
    show (mergeK (putK kvs p.1 p.2) r).length ≤ _
    rw [List.length_cons]; omega
theorem carries_of {P : Program} {w : World} : ∀ {kvs : List (Key × V)} {ws : List (Value × Value)}, VV (kvs.map fun kv => (kV kv.1, kv.2)) ws → ∃ rs, Carries (mixKind P w) ws rs ∧ KV kvs rs
  | [], _, r => by rw [List.map_nil] at r; cases r; exact ⟨[], True.intro, .nil⟩
  | p :: kvs, _, r => by
    rw [List.map_cons] at r
    cases r with
    | @cons a b as bs h t =>
      obtain ⟨rs, c, q⟩ := carries_of (P := P) (w := w) t
      obtain ⟨b1, b2⟩ := b
      exact ⟨(p.1, b2) :: rs, ⟨kV_is h.1, rfl, c⟩, .cons ⟨rfl, h.2⟩ q⟩
def tDisp (trs : List (TE × TE)) : TE := fun σ H Q => ∀ p, H p = none → tPairs trs σ (upd H p (.dK [])) fun ps H2 => H2 p = some (.dK []) ∧ ∃ kvs : List (Key × V), ps = kvs.map (fun kv => (kV kv.1, kv.2)) ∧ kvs.length ≤ 15 ∧ Q (.ref p) (upd H2 p (.dK (mergeK [] kvs)))
theorem pe_disp {X : Cx} {pos : Pos} {keys : List (Option Expr)} {values : List Expr} {trs : List (TE × TE)} (h : PPs X pos keys values trs) (hall : keys.all (·.isSome) = true) (hl : keys.length = values.length) (h0 : keys ≠ [])
    (h15 : keys.length ≤ 15) : PE X (.Dict keys values pos) (tDisp trs) := by
  intro pins s σ H Q I q
  have hn := I.hok.fresh (Nat.le_refl s.heap.objs.size)
  have I1 := I.laid (a := s.heap.objs.size) (o := .dK []) (h' := s.heap.push { cls := .type "dict", data := .dict #[] }) (t' := s.toks) (fun _ _ q => Heap.get?_push_of_some _ q) (Nat.le_refl _) (dk_empty s.heap I.big)
  refine wpAny_Dict_walk (knd := mixKind X.prog X.w) hall hl h0 h15 (thn (h pins _ σ _ _ I1 (q _ hn)) fun ws s2 ⟨ps, H2, I2, rel, e, kvs, ep, lk, q2⟩ => ?_)
  subst ep
  obtain ⟨rs, c, rk⟩ := carries_of (P := X.prog) (w := X.w) rel
  obtain ⟨z, hd, vs0, r0, dd⟩ := dk_of I2.hok e
  cases r0
  refine ⟨rs, c, dd, fun h' dd' hs => ⟨.ref s.heap.objs.size, _, ?_, rfl, q2⟩⟩
  have hz : (mergeK [] kvs).length ≤ sizeLine := by
    have h1 := length_mergeK kvs []
    rw [List.length_nil] at h1
    rw [sizeLine_eq]; omega
  have he : ∃ q, h'.get? s.heap.objs.size = some q := let ⟨q, _, _, hq, _⟩ := dd'; ⟨q, hq⟩
  exact d_write I2 (by rw [e]; exact True.intro) hs he (dk_new hz hd (rk.merge .nil) dd')
structure M1 (X : Cx) (o : Expr) (m : Str) (apos : Pos) (e : Expr) (cpos : Pos) : Prop where
  base : attributeBase o m X.env (eval o X.env) = eval o X.env
  few : ((backTo cpos (starEach [e] X.env)).all (fun x => !x.1) && (backToKw cpos (keywordEach [] X.env)).all (fun x => x.1.isSome)
    && decide (([e] : List Expr).length + ([] : List Keyword).length + (if ([] : List Keyword).isEmpty then 0 else 1) < 30)) = true
  line : (apos.endLine == cpos.line) = true
  trees : backTo cpos (starEach [e] X.env) = [(false, eval e X.env)]
structure M2 (X : Cx) (o : Expr) (m : Str) (apos : Pos) (e f : Expr) (cpos : Pos) : Prop where
  base : attributeBase o m X.env (eval o X.env) = eval o X.env
  few : ((backTo cpos (starEach [e, f] X.env)).all (fun x => !x.1) && (backToKw cpos (keywordEach [] X.env)).all (fun x => x.1.isSome)
    && decide (([e, f] : List Expr).length + ([] : List Keyword).length + (if ([] : List Keyword).isEmpty then 0 else 1) < 30)) = true
  line : (apos.endLine == cpos.line) = true
  trees : backTo cpos (starEach [e, f] X.env) = [(false, eval e X.env), (false, eval f X.env)]
def IsD (H : Hp) (a : Addr) : Prop := (∃ kvs, Rd H a (.dK kvs)) ∨ ∃ kvs, Rd H a (.dT kvs)
theorem isD_at {X : Cx} {pins : List (Addr × Obj)} {σ : St} {H : Hp} {s : Shared} {a : Addr} (I : Inv X pins σ H s) (d : IsD H a) :
    s.TypeIs (.ref a) "dict" ∧ (∀ b, Value.ref a = .ref b → ∃ ob, s.heap.get? b = some ob ∧ ob.dict = none) ∧ (a == sysModules) = false := by
  rcases d with ⟨kvs, e⟩ | ⟨kvs, e⟩
  · obtain ⟨_, hd, vs, _, dd⟩ := dk_rd I.hok e
    refine ⟨dd.typeIs, fun b q => ?_, hd⟩
    cases q
    obtain ⟨ob, _, _, h1, h2, _⟩ := dd
    exact ⟨ob, h1, h2.2.1⟩
  · obtain ⟨_, hd, xs, _, dd⟩ := dt_rd I.hok e
    refine ⟨dd.typeIs, fun b q => ?_, hd⟩
    cases q
    obtain ⟨ob, _, _, h1, h2, _⟩ := dd
    exact ⟨ob, h1, h2.2.1⟩
section
variable {X : Cx} {pins : List (Addr × Obj)} {σ : St} {H : Hp} {s : Shared} {a : Addr} {y d : V} {u r : Value} {o : Option V} {A : Around} {E : Value → Shared → Prop}
theorem d_get2 {Q : Value → Shared → Prop} (hu : A.units + 1 < cLine) (I : Inv X pins σ H s) (g : DGet H a y o) (ry : RelV y u) (rd : RelV d r) (h : ∀ w' s', Inv X pins σ H s' → RelV (o.getD d) w' → Q w' s') :
    wpAny (model X.prog X.w) A (call (.builtin "dict.get") [.ref a, u, r]) Q E s := by
  rcases g with ⟨kvs, k, e, ey, l⟩ | ⟨kvs, k, b, e, ey, eb, l⟩
  · subst ey
    obtain ⟨z, hd, vs, rel, dd⟩ := dk_rd I.hok e
    refine call_meetsIn PySem.F.slot_dict_get dd.typeIs PySem.F.entry_dict_get (PySem.F.args_dict_get_3 _ _ _) (meets_dict_get_default (mixKind X.prog X.w) a (kV_is ry) hd r) ⟨_, dd.mapOf, h _ _ (I.tok _) ?_⟩
    rw [l]
    exact (rel.val k).getD rd
  · subst ey
    cases (show u = Value.ref b from ry)
    obtain ⟨z, hd, xs, rel, dd⟩ := dt_rd I.hok e
    refine call_meetsIn PySem.F.slot_dict_get dd.typeIs PySem.F.entry_dict_get (PySem.F.args_dict_get_3 _ _ _) (meetsH_dict_get_default (tupleKind (mixKind X.prog X.w)) a b hd r) ⟨tupleKind_room_in1 hu, k, xs, key_of I.hok eb, dd, h _ _ (I.tok _) ?_⟩
    rw [l]
    exact (rel.val k).getD rd
end
def tDGet2 (td ty tx : TE) : TE := fun σ H Q => td σ H fun x H1 => ∃ a, x = .ref a ∧ IsD H1 a ∧ ty σ H1 fun y H2 => tx σ H2 fun z H3 => ∃ o, DGet H3 a y o ∧ Q (o.getD z) H3
section
variable {X : Cx} {o e f : Expr} {apos cpos : Pos} {td ty tx : TE}
theorem pe_dget2 (hu : X.A.units + 1 < cLine) (ho : PE X o td) (he : PE X e ty) (hf : PE X f tx) (m : M2 X o "get" apos e f cpos) : PE X (.Call (.Attribute o "get" apos) [e, f] [] cpos) (tDGet2 td ty tx) := by
  intro pins s σ H Q I h
  refine wpAny_Call_method m.base m.few m.line PySem.F.plainAttrs_dict PySem.F.slot_dict_get PySem.F.type_dict_get (thn (ho pins s σ H _ I h) fun u s1 ⟨x, H1, I1, rx, a, ex, d, q1⟩ => ?_)
  subst ex
  obtain rfl : u = Value.ref a := rx
  obtain ⟨t1, t2, _⟩ := isD_at I1 d
  refine ⟨t1, t2, ?_⟩
  rw [m.trees]
  refine Calls.callWith_builtin rfl (Calls.evalArgs_plain (Calls.spliced_cons (thn (he pins s1 σ H1 _ I1 q1) fun iv s2 ⟨y, H2, I2, ry, q2⟩ =>
    Calls.spliced_cons (thn (hf pins s2 σ H2 _ I2 q2) fun fv s3 ⟨z, H3, I3, rz, ov, g, q3⟩ => Calls.spliced_nil ?_))))
  exact d_get2 hu I3 g ry rz fun w' s4 I4 rw' => ⟨_, H3, I4, rw', q3⟩
end
section
variable {X : Cx} {pins : List (Addr × Obj)} {σ : St} {H : Hp} {s : Shared} {a : Addr} {kvs : List (Key × V)} {A : Around} {E : Value → Shared → Prop}
end
section
variable {X : Cx} {pins : List (Addr × Obj)} {σ : St} {H : Hp} {s : Shared} {a : Addr} {y : V} {u : Value} {A : Around} {E : Value → Shared → Prop}
end
end L2
namespace L2
open PySem PySem.Spec PyProof.Rows
section
variable {prog : Program} {w : World} {A : Around} {E : Value → Shared → Prop}
end
section
variable {X : Cx}
end
end L2
namespace L2
open PySem PySem.Spec PyProof.Rows
section
variable {X : Cx} {pins : List (Addr × Obj)} {σ : St} {H : Hp} {s : Shared} {h' : Heap}
end
section
variable {X : Cx}
end
def RgC (i j c : Int) (n : Nat) : Prop := c ≠ 0 ∧ c.natAbs < 1073741824 ∧ Builtin.Range.small i j c = true ∧ Builtin.Range.rangeSize i j c = n
theorem RgC.neg {i j : Int} (ha : -(2 ^ 62) ≤ i) (ha' : i < 2 ^ 62) (hb : -(2 ^ 62) ≤ j) (hb' : j < 2 ^ 62) : RgC i j (-1) (i - j).toNat :=
  ⟨by decide, by decide, PySem.W.small_down ha ha' hb hb', PySem.W.rangeSize_downNat i j⟩
section
variable {X : Cx} {tg : Expr}
end
section
variable {X : Cx} {tg : Expr}
end
section
variable {prog : Program} {w : World} {A : Around} {E : Value → Shared → Prop} {s : Shared}
end
section
variable {X : Cx} {pins : List (Addr × Obj)} {σ : St} {H : Hp} {s : Shared} {d : Addr} {o : Obj}
end
section
variable {P : Program} {w : World} {K : PySem.W.Frag} {tg : Expr} {d : Addr} {o : Obj} {es : Array DictEntry} {ep : Nat}
end
section
variable {X : Cx} {tg e : Expr} {td : TE} {apos cpos : Pos}
end
end L2
section 
namespace Bits
open PySem PyProof.Rows
end Bits
end 
section 
namespace TL
open PySem PySem.Builtin PySem.Builtin.Str PySem.StrLaws
abbrev tl (x : Str) : List Nat := x.cps.toList
theorem len_tl (x : Str) : x.length = (tl x).length := by simp [tl, Str.length]
def pre (S l : List Nat) : Bool := l.take S.length == S
def par (S : List Nat) : List Nat → List Nat → Option (List Nat × List Nat)
  | _, [] => none
  | acc, c :: r => if pre S (c :: r) = true then some (acc, (c :: r).drop S.length) else par S (acc ++ [c]) r
theorem len1 {y : Str} (hy : tl y ≠ []) : 1 ≤ y.length := by
  have e2 : 0 < (tl y).length := List.length_pos_iff.mpr hy
  rw [len_tl y]
  exact e2
end TL
end 
namespace L2
open PySem PySem.Spec PyProof.Rows
section
variable {X : Cx} {pins : List (Addr × Obj)} {σ : St} {H : Hp} {s : Shared} {Q : VK}
end
section
variable {X : Cx}
end
section
variable {X : Cx} {o e : Expr} {to te : TE}
end
end L2
namespace L2
open PySem PySem.Spec PyProof.Rows
section
variable {X : Cx}
end
end L2
namespace Att
open PySem PySem.W PySem.Calls PyProof.Rows
theorem ints_of_wellAll {P : Params} {h : Heap} : ∀ (ns : List Int) (vs : List Value), WellAll P h vs (ns.map WData.int) → IntsAre vs ns := by
  intro ns
  induction ns with
  | nil =>
    intro vs w
    rw [List.map_nil] at w
    cases w
    exact .nil
  | cons n ns ih =>
    intro vs w
    rw [List.map_cons] at w
    cases w with
    | cons a b =>
      cases a
      exact .cons _ _ (ih _ b)
theorem script_of {l : OpenLaw} {n : Nat} (hn : l.most = some n) {P : Params} {h : Heap} {args : List WData} {vals : List Value}
    (hpre : l.row.toRowW.claim.pre args = true) (hwl : WellAll P h vals args) :
    ∃ a vs ns, vals = [Value.ref a] ∧ args = [WData.list (ns.map WData.int)] ∧ h.get? a = some { cls := .type "list", data := .seq vs.toArray } ∧ IntsAre vs ns ∧ ns.length ≤ n := by
  have hsh : WShape.hasAll [] args [.list .int] = true := (pre_splitW hpre).1
  have hc : l.pre.holds [] { args := args } = true := (pre_splitW hpre).2
  obtain ⟨d, r, rfl, h1, h2⟩ := hasAllW_cons hsh
  obtain rfl := hasAllW_nil h2
  obtain ⟨xs, rfl, h3⟩ := hasW_list h1
  obtain ⟨ns, rfl⟩ := items_int h3
  have hlen : ns.length ≤ n := by
    unfold OpenLaw.pre at hc
    have h4 : (WTm.not (.lt (.lit (.int (n : Int))) (.len (.arg 0)))).holds [] { args := [.list (ns.map .int)] } = true := by
      have h4 := (holds_andW hc).1
      rw [hn] at h4
      exact h4
    have h5 := condW_of h4 (w_not (w_lt w_lit (w_len_list (w_arg rfl))))
    rw [List.length_map] at h5
    refine Nat.le_of_not_lt fun q => ?_
    have q' : (n : Int) < ((ns.length : Nat) : Int) := by omega
    first
      | (rw [decide_eq_true q'] at h5; exact absurd h5 (by decide))
      | (simp at h5; omega)
  cases hwl with
  | cons w1 w2 =>
    cases w2
    cases w1 with
    | list ho hall => exact ⟨_, _, ns, rfl, rfl, ho, ints_of_wellAll ns _ hall, hlen⟩
theorem post_true (l : OpenLaw) (args : List WData) : l.row.toRowW.claim.post args (.bool true) args = true :=
  postW_of (r := l.row.toRowW) (X := (true == true))
    (show WShape.has [] (.bool true) .bool = true by first | rfl | decide | simp [WShape.has, WShape.arms, WShape.armsAll])
    (show (WTm.eq .res (.lit (.bool true))).value [] { args := args, res := some (.bool true), after := args } = some (.bool (true == true)) from w_eq_bool (w_res rfl) w_lit) rfl
theorem attach_call {l : OpenLaw} {n : Nat} {q : Program} {loose : List Str} {XP : (Str → Option Value) → Heap → Prop} {YP : World → Heap → Prop} {d : DefRec}
    (hn : l.most = some n) (hdf : d.params.defaults = [])
    (call : ∀ (w : World) (s₀ s₁ : Shared) (mg mb : Str → Option Value) (fa : Addr) (o : Obj) (pm cd doc : Value) (a : Addr) (vs : List Value) (ns : List Int),
      Ground q loose [] XP w s₀ mg mb s₁.heap → YP w s₁.heap →
      s₁.heap.get? fa = some o → o.data = .func (docDef d.name d.params d.body d.scope pm cd doc) → s₁.heap.CodeRec cd d.name → mg d.name = some (.ref fa) →
      s₁.heap.get? a = some { cls := .type "list", data := .seq vs.toArray } → IntsAre vs ns → ns.length ≤ n → s₁.gens = #[] →
      codeAny (model l.prog w) callerA (.call (.ref fa) ⟨[.ref a], []⟩) (fun r s' => r = .ok (.ret (.bool true)) ∧ OldK s₁.heap s'.heap ∧ s'.os = s₁.os ∧ AllBare s'.gens) s₁) :
    WalkO q loose XP YP l.row.toRowW d [] (fun f vs => PySem.call f vs) := by
  intro w s₀ s₁ mg mb G Y fa o pm cd doc dV kV ho hd hcd hD hmg hg args vals as hpre hlay hrd hwl hlo
  obtain rfl : dV = .none := Dflts.none hD hdf
  obtain rfl : kV = .none := Dflts.noKw hD
  obtain ⟨a, vs, ns, rfl, rfl, hobj, hints, hlen⟩ := script_of hn hpre hwl
  refine enter_call (codeAny_mono (call w s₀ s₁ mg mb fa o pm cd doc a vs ns G Y ho (fd_plain hd) hcd hmg hobj hints hlen hg) fun r s' hq => ?_)
  obtain ⟨rfl, h2, h3, h4⟩ := hq
  exact ⟨.inl ⟨.bool true, .bool true, [], rfl, fun _ => rfl, .bool true, post_true l _, fun _ => ⟨List.Pairwise.nil, fun _ hm => (nomatch hm)⟩⟩, h2, h3, h4⟩
section
variable {prog : Program} {w : World} {A : Around} {E : Value → Shared → Prop} {s : Shared} {K : Frag}
end
end Att
namespace L2
open PySem PySem.Spec PyProof.Rows
theorem vals_ints : ∀ {vs : List Value} {ns : List Int}, IntsAre vs ns → Vals (ns.map V.int) vs
  | _, _, .nil => .nil
  | _, _, .cons n t h => .cons ⟨t, rfl⟩ (vals_ints h)
def Only (H : Hp) : Prop := ∀ b, H b = none ∨ ∃ o xs, H b = some (.frz o (.lst xs))
theorem law_call {P : Program} {w : World} {K : PySem.W.Frag} {mg mb : Str → Option Value} {CX : CXT} {k : Nat} {fa a : Addr} {fd : FuncData} {x : Str} {sp : Sp} {s₁ : Shared} {vs : List Value} {ns : List Int}
    (KX : K.In s₁.heap) (hns : s₁.heap.Ns mainGlobals mg) (hb : s₁.heap.Ns builtinsNs mb) (hbb : ∀ x : Str, x ≠ "__name__" → mb x = bootBuiltins x) (hlim : s₁.heap.NoLimit) (hg : s₁.gens = #[])
    (ha : s₁.heap.get? a = some { cls := .type "list", data := .seq vs.toArray }) (hi : IntsAre vs ns) (hl : ns.length ≤ sizeLine) (hr : Room k callerA)
    (F : ∀ base : Heap, K.In base → base.Ns mainGlobals mg → FnOk P w K mg base CX k fa fd [x] sp) (hbind : ∀ (s : Shared) (u : Value), BindsTo s fd ⟨[u], []⟩ [(x, u)])
    (hsp : ∀ H : Hp, Only H → SqL K H a (ns.map V.int) → sp [.ref a] H (fun v _ => v = .bl true) fun _ _ _ => False)
    (hCX : ∀ H e s', CX [] H s₁ (fun _ _ _ => False) e s' → False) :
    codeAny (model P w) callerA (.call (.ref fa) ⟨[.ref a], []⟩) (fun r s' => r = .ok (.ret (.bool true)) ∧ OldK s₁.heap s'.heap ∧ s'.os = s₁.os ∧ AllBare s'.gens) s₁ := by
  have rv := vals_ints hi
  have lenV := hi.length
  -- from an abstract heap in which nothing but the script may be tracked
  have core : ∀ H : Hp, Only H → SqL K H a (ns.map V.int) → HOk P w H s₁.heap → (∀ b, H b ≠ none → b = a) → (H a ≠ none → K.lookup a = none) →
      codeAny (model P w) callerA (.call (.ref fa) ⟨[.ref a], []⟩) (fun r s' => r = .ok (.ret (.bool true)) ∧ OldK s₁.heap s'.heap ∧ s'.os = s₁.os ∧ AllBare s'.gens) s₁ := by
    intro H hO hS hok hA hK
    have base_of : ∀ {b : Addr} {o : Obj}, s₁.heap.get? b = some o → H b = none → (hidT s₁.heap H).get? b = some o := fun e n => hidT_get e n
    have noA : ∀ {b : Addr} {o : Obj} {es : Array DictEntry} {ep : Nat}, s₁.heap.get? b = some o → o.data = .dict es ep → H b = none := fun {b o es ep} e d => by
      cases q : H b with
      | none => rfl
      | some u =>
        have e' : b = a := hA b (by rw [q]; simp)
        subst e'
        rw [ha] at e; cases e
        have d' : Data.seq vs.toArray _ = Data.dict es ep := d
        cases d'
    have nsK : ∀ {b : Addr} {m : Str → Option Value}, s₁.heap.Ns b m → (hidT s₁.heap H).Ns b m := fun {b m} ⟨o, es, ep, e, d, r⟩ => ⟨o, es, ep, base_of e (noA e d), d, r⟩
    have hKb : K.In (hidT s₁.heap H) := fun b o e => base_of (KX b o e) (by
      cases q : H b with
      | none => rfl
      | some u =>
        have e' : b = a := hA b (by rw [q]; simp)
        subst e'
        rw [hK (by rw [q]; simp)] at e; cases e)
    have hM : Mod K mg (hidT s₁.heap H) := ⟨hKb, nsK hns, ⟨mb, nsK hb, hbb⟩, let ⟨mc, h1, h2⟩ := hlim; ⟨mc, nsK h1, h2⟩⟩
    have e0 : Env0 P w K mg (hidT s₁.heap H) callerA [] s₁ H := ⟨rfl, hM, fun b o e => of_hidT e, Nat.le_of_eq (hidT_size _ _), trivial, fun b hb => absurd (show b ∈ ([] : List Addr) from hb) (by simp), hok, .of_eq hg⟩
    refine codeAny_mono ((F _ hKb (nsK hns)).run callerA [] s₁ H ⟨[.ref a], []⟩ [.ref a] [.ref a] _ _ hr e0 (hbind s₁ (.ref a)) (.cons rfl .nil) (hsp H hO hS)) fun r s' h => ?_
    cases r with
    | error e => exact (hCX H e s' h).elim
    | ok fl =>
      cases fl with
      | next => exact False.elim h
      | brk => exact False.elim h
      | cont => exact False.elim h
      | ret u =>
        obtain ⟨v, H', os, bare, un, hok', r', q⟩ := h
        have q' : v = .bl true := q
        subst q'
        obtain rfl : u = Value.bool true := r'
        refine ⟨rfl, OldK.of_keep fun b o e => ?_, os, bare⟩
        cases q : H b with
        | none => exact un.keep b o e q (by intro z; exact absurd (show b ∈ ([] : List Addr) from z) (by simp)) (by simp)
        | some u =>
          rcases hO b with z | ⟨ob, xs, z⟩
          · rw [q] at z; cases z
          · have z2 := un.frzs b ob _ z
            obtain ⟨e1, _⟩ := hok b _ z
            obtain ⟨e2, _⟩ := hok' b _ z2
            rw [e] at e1; cases e1
            exact e2
  cases hk : K.lookup a with
  | some o =>
    -- the script is one of the module's own objects
    have e := KX a o hk
    rw [ha] at e
    cases e
    refine core (fun _ => none) (fun _ => .inl rfl) (.inr ⟨_, vs.toArray, _, hk, rfl, rfl, rfl, by rw [List.size_toArray, lenV]; exact hl, by simpa using rv⟩) (fun b u z => by have z' : (none : Option HO) = some u := z; cases z') (fun b z => absurd rfl z) fun z => absurd rfl z
  | none =>
    refine core (fun b => if b = a then some (.frz { cls := .type "list", data := .seq vs.toArray } (.lst (ns.map V.int))) else none) (fun b => ?_) (.inl (.inr ⟨{ cls := .type "list", data := .seq vs.toArray }, if_pos rfl⟩)) (fun b u z => ?_) (fun b z => ?_) fun _ => hk
    · by_cases hb : b = a
      · exact .inr ⟨_, _, if_pos hb⟩
      · exact .inl (if_neg hb)
    · by_cases hb : b = a
      · have z' := (if_pos hb).symm.trans z
        cases z'
        subst hb
        exact ⟨ha, by rw [List.length_map]; exact hl, vs, _, rv, ha⟩
      · have z' := (if_neg hb).symm.trans z
        cases z'
    · by_cases hb : b = a
      · exact hb
      · exact absurd (if_neg hb) z
end L2
namespace L2
open PySem PySem.Spec PyProof.Rows
theorem walk_of {l : PySem.W.OpenLaw} {n k : Nat} {q : Program} {loose : List Str} {XP : (Str → Option Value) → Heap → Prop} {YP : World → Heap → Prop} {d : DefRec} {K : Params → PySem.W.Frag} {CX : World → CXT} {sp : World → Sp} {x : Str}
    (hn : l.most = some n) (hn2 : n ≤ sizeLine) (hdf : d.params.defaults = []) (hr : Room k callerA)
    (hY : ∀ (w : World) (h : Heap), YP w h → (K w.params).In h)
    (F : ∀ (w : World) (mg : Str → Option Value) (fa : Addr) (h : Heap), (K w.params).In h → h.Ns mainGlobals mg → mg d.name = some (.ref fa) →
      ∃ fd : FuncData, (∀ (s : Shared) (u : Value), BindsTo s fd ⟨[u], []⟩ [(x, u)]) ∧
        ∀ base : Heap, (K w.params).In base → base.Ns mainGlobals mg → FnOk l.prog w (K w.params) mg base (CX w) k fa fd [x] (sp w))
    (hsp : ∀ (w : World) (H : Hp) (a : Addr) (ns : List Int), ns.length ≤ n → Only H → SqL (K w.params) H a (ns.map V.int) → sp w [.ref a] H (fun v _ => v = .bl true) fun _ _ _ => False)
    (hCX : ∀ (w : World) (H : Hp) (s : Shared) (e : Value) (s' : Shared), CX w [] H s (fun _ _ _ => False) e s' → False) :
    PySem.W.WalkO q loose XP YP l.row.toRowW d [] (fun f vs => PySem.call f vs) := by
  refine Att.attach_call hn hdf fun w s₀ s₁ mg mb fa o pm cd doc a vs ns G Y ho hd hcd hmg hobj hints hlen hg => ?_
  have KX := hY w _ Y
  obtain ⟨fd, hb, hF⟩ := F w mg fa _ KX G.T.g hmg
  exact law_call KX G.T.g G.T.b G.T.builtins G.T.nolimit hg hobj hints (Nat.le_trans hlen hn2) hr hF hb (fun H hO hS => hsp w H a ns hlen hO hS) fun H e s' => hCX w H s₁ e s'
end L2
namespace L2
open PySem PySem.Spec PyProof.Rows
def defArgs (s : Stmt) : Arguments := match s with
  | .FunctionDef _ a _ _ _ _ _ _ _ _ => a
  | _ => { posonlyargs := [], args := [], vararg := none, kwonlyargs := [], kw_defaults := [], kwarg := none, defaults := [] }
def defBody (s : Stmt) : List Stmt := match s with
  | .FunctionDef _ _ b _ _ _ _ _ _ _ => b
  | _ => []
def defScope (s : Stmt) : Scope := match s with
  | .FunctionDef _ _ _ _ _ _ sc _ _ _ => sc
  | _ => { kind := .function, names := [], isGenerator := false, isCoroutine := false }
abbrev CX0 : CXT := fun _ _ _ _ _ _ => False
abbrev E0 : XK := fun _ _ _ => False
theorem pass0 {X : Cx} : Passes CX0 X E0 := fun _ _ _ _ _ _ _ h => h.elim
structure Fun (K : PySem.W.Frag) (x qual : Str) (st : Stmt) (f : Addr) (fd : FuncData) : Prop where
  ex : ∃ (oc : Value) (od : Option Addr) (kV doc pm : Value) (an : Option Addr) (cdv ct : Value) (osl : Array (Option Value)),
    fd = PySem.W.fnOf x qual (defArgs st) (defBody st) (defScope st) .none kV doc pm an cdv ct ∧ K.lookup f = some ⟨oc, od, .func fd, osl⟩ ∧ PySem.W.codeIn K cdv qual = true
  kp : PySem.W.keepIn K (.ref f) = true
section
variable {P : Program} {w : World} {K : PySem.W.Frag} {mg : Str → Option Value} {base : Heap}
theorem Fun.ok {x qual : Str} {st : Stmt} {f : Addr} {fd : FuncData} {N ps : List Str} {k : Nat} {sp : Sp} (F : Fun K x qual st f fd) (S : FnScope N ps (defScope st)) (len : ∀ vs H Q E, sp vs H Q E → vs.length = ps.length)
    (hbody : ∀ (cdv : Value) (A : Around) (outer : List Env) (s : Shared) (H : Hp) (vs : List V) (Q : VK) (E : XK), Room k (A.deeper (envOfC qual (defScope st) s.heap.objs.size f cdv)) → sp vs H Q E →
      ∃ t, PSs (cxOf CX0 P w K mg base N qual (defScope st) f cdv A outer s H E).nox (defBody st) t ∧ t { nx := fun _ H' => Q .non H', rt := Q } (start N vs) H) : FnOk P w K mg base CX0 (k + 1) f fd ps sp := by
  obtain ⟨oc, od, kV, doc, pm, an, cdv, ct, osl, rfl, lk, hcd⟩ := F.ex
  refine fn_of lk hcd S len fun A outer s H vs Q E hr hsp => ?_
  obtain ⟨t, h, q⟩ := hbody cdv A outer s H vs Q E hr hsp
  exact ⟨t, h.nox, q⟩
theorem Fun.binds {x qual : Str} {st : Stmt} {f : Addr} {fd : FuncData} {ps : List Str} (F : Fun K x qual st f fd)
    (h : ∀ (kV doc pm : Value) (an : Option Addr) (cdv ct : Value) (us : List Value), us.length = ps.length → bindArgs (PySem.W.fnOf x qual (defArgs st) (defBody st) (defScope st) .none kV doc pm an cdv ct) ⟨us, []⟩ = pure (ps.zip us)) : Binds K fd ps [] := by
  obtain ⟨oc, od, kV, doc, pm, an, cdv, ct, osl, rfl, lk, hcd⟩ := F.ex
  exact .all (h kV doc pm an cdv ct)
end
theorem hu_of {A : Around} {k : Nat} (hr : Room k A) : A.units + 1 < cLine := Nat.lt_of_le_of_lt (Nat.add_le_add_left (by decide : 1 ≤ 64) _) hr.units
section
variable {X : Cx}
theorem call_lenD : CallR X (.builtin "len") (fun xs H Q => ∃ a kvs, xs = [V.ref a] ∧ H a = some (.dK kvs) ∧ Q (.int kvs.length) H) := by
  intro pins s σ H xs us Q I r h
  obtain ⟨a, kvs, rfl, ha, q⟩ := h
  obtain ⟨u, rfl, ru⟩ := vals1 r
  cases ru
  exact d_len I (.inl ha) fun t s' I' => ⟨.int kvs.length, H, I', ⟨t, rfl⟩, q⟩
end
theorem iteF {A B : Prop} (h : B) : if false = true then A else B := by
  rw [if_neg Bool.false_ne_true]
  exact h
theorem iteT {A B : Prop} (h : A) : if true = true then A else B := by
  rw [if_pos rfl]
  exact h
def Same (H H' : Hp) : Prop := ∀ b o, H b = some o → H' b = some o
theorem Same.refl (H : Hp) : Same H H := fun _ _ h => h
theorem Same.trans {H H1 H2 : Hp} (a : Same H H1) (b : Same H1 H2) : Same H H2 := fun c o h => b c o (a c o h)
theorem Same.free {H H' : Hp} (e : Same H H') {l : Addr} (h : H' l = Option.none) : H l = Option.none := by
  cases q : H l with
  | none => rfl
  | some o =>
    rw [e l o q] at h
    cases h
theorem Same.seq {K : PySem.W.Frag} {H H' : Hp} {a : Addr} {xs : List V} (e : Same H H') (h : SqL K H a xs) : SqL K H' a xs := by
  rcases h with (h | ⟨o, h⟩) | h
  · exact .inl (.inl (e _ _ h))
  · exact .inl (.inr ⟨o, e _ _ h⟩)
  · exact .inr h
section
variable {κ : Type} [DecidableEq κ]
end
theorem Same.made {H H1 : Hp} {x dx C : Addr} (nx : H x = Option.none) (nd : H dx = Option.none) (k : ∀ b o, (upd (upd H dx (.own x)) x (.ins C dx [])) b = some o → b ≠ x → H1 b = some o) : Same H H1 := fun b o e =>
  k b o (by rw [upd_ne (ne_of_none e nx), upd_ne (ne_of_none e nd)]; exact e) (ne_of_none e nx)
end L2
set_option Elab.async false
set_option linter.all false
set_option autoImplicit false
set_option maxRecDepth 100000
namespace EV
open PySem PySem.Spec PyProof.Rows L2
inductive D where
  | non | bl (b : Bool) | int (i : Int) | str (x : Str) | tup (xs : List D) | fz (xs : List D) | ref (n : Nat)
  deriving Inhabited
inductive AO where
  | lst (xs : List D) | dct (kvs : List (Key × D))
  deriving Inhabited
abbrev AH := List AO
structure Ex where
  cls : Str
  fs : List (Str × D)
inductive R (α : Type) where
  | ok (a : α) (h : AH) | ex (e : Ex) (h : AH) | bad
def R.bind {α β : Type} (r : R α) (k : α → AH → R β) : R β := match r with
  | .ok a h => k a h
  | .ex e h => .ex e h
  | .bad => .bad
theorem bind_ok {α β : Type} (a : α) (h : AH) (k : α → AH → R β) : (R.ok a h).bind k = k a h := id rfl
theorem bind_eq {α β : Type} {r : R α} {k : α → AH → R β} {b : β} {h' : AH} (e : r.bind k = .ok b h') : ∃ a h, r = .ok a h ∧ k a h = .ok b h' := by
  cases r with
  | ok a h => exact ⟨a, h, rfl, e⟩
  | ex x h => cases e
  | bad => cases e
def SqF (K : PySem.W.Frag) (H : Hp) (a : Addr) (xs : List V) : Prop :=
  (∃ o, H a = some (.frz o (.lst xs))) ∨
    ∃ (o : Obj) (its : Array Value) (n : Nat), K.lookup a = some o ∧ o.cls = .type "list" ∧ o.dict = none ∧ o.data = .seq its n ∧ its.size ≤ sizeLine ∧ Vals xs its.toList
theorem SqF.sq {K : PySem.W.Frag} {H : Hp} {a : Addr} {xs : List V} (h : SqF K H a xs) : SqL K H a xs := by
  rcases h with ⟨o, h⟩ | h
  · exact .inl (.inr ⟨o, h⟩)
  · exact .inr h
mutual
inductive RV (K : PySem.W.Frag) (ρ : List Addr) (H : Hp) : D → V → Prop
  | non : RV K ρ H .non .non
  | bl (b : Bool) : RV K ρ H (.bl b) (.bl b)
  | int (i : Int) : RV K ρ H (.int i) (.int i)
  | str (x : Str) : RV K ρ H (.str x) (.str x)
  | tup {a : Addr} {xs : List D} {ys : List V} : SqT K H a ys → RVs K ρ H xs ys → RV K ρ H (.tup xs) (.ref a)
  | fz {a : Addr} {xs : List D} {ys : List V} : SqF K H a ys → RVs K ρ H xs ys → RV K ρ H (.fz xs) (.ref a)
  | ref {n : Nat} {a : Addr} : ρ[n]? = some a → RV K ρ H (.ref n) (.ref a)
inductive RVs (K : PySem.W.Frag) (ρ : List Addr) (H : Hp) : List D → List V → Prop
  | nil : RVs K ρ H [] []
  | cons {x : D} {y : V} {xs : List D} {ys : List V} : RV K ρ H x y → RVs K ρ H xs ys → RVs K ρ H (x :: xs) (y :: ys)
end
structure Ext (K : PySem.W.Frag) (ρ : List Addr) (H : Hp) (ρ' : List Addr) (H' : Hp) : Prop where
  pre : ∀ (n : Nat) (a : Addr), ρ[n]? = some a → ρ'[n]? = some a
  tup : ∀ (a : Addr) (ys : List V), SqT K H a ys → SqT K H' a ys
  fz : ∀ (a : Addr) (ys : List V), SqF K H a ys → SqF K H' a ys
theorem Ext.refl {K : PySem.W.Frag} {ρ : List Addr} {H : Hp} : Ext K ρ H ρ H := ⟨fun _ _ h => h, fun _ _ h => h, fun _ _ h => h⟩
theorem Ext.trans {K : PySem.W.Frag} {ρ ρ1 ρ2 : List Addr} {H H1 H2 : Hp} (a : Ext K ρ H ρ1 H1) (b : Ext K ρ1 H1 ρ2 H2) : Ext K ρ H ρ2 H2 :=
  ⟨fun n x h => b.pre n x (a.pre n x h), fun x y h => b.tup x y (a.tup x y h), fun x y h => b.fz x y (a.fz x y h)⟩
mutual
theorem RV.up {K : PySem.W.Frag} {ρ ρ' : List Addr} {H H' : Hp} (e : Ext K ρ H ρ' H') : ∀ {d : D} {v : V}, RV K ρ H d v → RV K ρ' H' d v
  | _, _, .non => .non
  | _, _, .bl b => .bl b
  | _, _, .int i => .int i
  | _, _, .str x => .str x
  | _, _, .tup h r => .tup (e.tup _ _ h) (RVs.up e r)
  | _, _, .fz h r => .fz (e.fz _ _ h) (RVs.up e r)
  | _, _, .ref h => .ref (e.pre _ _ h)
theorem RVs.up {K : PySem.W.Frag} {ρ ρ' : List Addr} {H H' : Hp} (e : Ext K ρ H ρ' H') : ∀ {xs : List D} {ys : List V}, RVs K ρ H xs ys → RVs K ρ' H' xs ys
  | _, _, .nil => .nil
  | _, _, .cons a b => .cons (RV.up e a) (RVs.up e b)
end
section
variable {K : PySem.W.Frag} {ρ : List Addr} {H : Hp}
theorem RVs.length : ∀ {xs : List D} {ys : List V}, RVs K ρ H xs ys → xs.length = ys.length
  | _, _, .nil => rfl
  | _, _, .cons _ b => by simp [RVs.length b]
theorem RVs.get : ∀ {xs : List D} {ys : List V} {i : Nat} {x : D}, RVs K ρ H xs ys → xs[i]? = some x → ∃ y, ys[i]? = some y ∧ RV K ρ H x y
  | _, _, _, _, .nil, e => by simp at e
  | _, _, 0, _, .cons a _, e => by simp at e; subst e; exact ⟨_, rfl, a⟩
  | _, _, i + 1, x, .cons _ b, e => by
    obtain ⟨y, h1, h2⟩ := RVs.get (i := i) (x := x) b (by simpa using e)
    exact ⟨y, by simpa using h1, h2⟩
theorem RVs.app : ∀ {xs xs' : List D} {ys ys' : List V}, RVs K ρ H xs ys → RVs K ρ H xs' ys' → RVs K ρ H (xs ++ xs') (ys ++ ys')
  | _, _, _, _, .nil, s => s
  | _, _, _, _, .cons a b, s => .cons a (RVs.app b s)
theorem RVs.set {x : D} {y : V} (r : RV K ρ H x y) : ∀ {xs : List D} {ys : List V} (i : Nat), RVs K ρ H xs ys → RVs K ρ H (xs.set i x) (ys.set i y)
  | _, _, _, .nil => .nil
  | _, _, 0, .cons _ b => .cons r b
  | _, _, i + 1, .cons a b => .cons a (RVs.set r i b)
theorem RVs.drop : ∀ {xs : List D} {ys : List V} (n : Nat), RVs K ρ H xs ys → RVs K ρ H (xs.drop n) (ys.drop n)
  | _, _, 0, h => h
  | _, _, _ + 1, .nil => .nil
  | _, _, n + 1, .cons _ b => RVs.drop n b
theorem RVs.take : ∀ {xs : List D} {ys : List V} (n : Nat), RVs K ρ H xs ys → RVs K ρ H (xs.take n) (ys.take n)
  | _, _, 0, _ => .nil
  | _, _, _ + 1, .nil => .nil
  | _, _, n + 1, .cons a b => .cons a (RVs.take n b)
theorem RVs.rev : ∀ {xs : List D} {ys : List V}, RVs K ρ H xs ys → RVs K ρ H xs.reverse ys.reverse
  | _, _, .nil => .nil
  | _, _, .cons a b => by
    rw [List.reverse_cons, List.reverse_cons]
    exact RVs.app (RVs.rev b) (.cons a .nil)
theorem RVs.ints (ns : List Int) : RVs K ρ H (ns.map D.int) (ns.map V.int) := by
  induction ns with
  | nil => exact .nil
  | cons n ns ih => exact .cons (.int n) ih
end
inductive RK (K : PySem.W.Frag) (ρ : List Addr) (H : Hp) : List (Key × D) → List (Key × V) → Prop
  | nil : RK K ρ H [] []
  | cons {k : Key} {x : D} {y : V} {xs : List (Key × D)} {ys : List (Key × V)} : RV K ρ H x y → RK K ρ H xs ys → RK K ρ H ((k, x) :: xs) ((k, y) :: ys)
theorem RK.up {K : PySem.W.Frag} {ρ ρ' : List Addr} {H H' : Hp} (e : Ext K ρ H ρ' H') {xs : List (Key × D)} {ys : List (Key × V)} (r : RK K ρ H xs ys) : RK K ρ' H' xs ys := by
  induction r with
  | nil => exact .nil
  | cons a _ ih => exact .cons (a.up e) ih
def dget (kvs : List (Key × D)) (k : Key) : Option D := (kvs.find? fun kv => decide (kv.1 = k)).map (·.2)
def dput (kvs : List (Key × D)) (k : Key) (v : D) : List (Key × D) :=
  if (kvs.any fun kv => decide (kv.1 = k)) = true then kvs.map (fun kv => if kv.1 = k then (kv.1, v) else kv) else kvs ++ [(k, v)]
section
variable {K : PySem.W.Frag} {ρ : List Addr} {H : Hp}
theorem RK.length {xs : List (Key × D)} {ys : List (Key × V)} (r : RK K ρ H xs ys) : xs.length = ys.length := by
  induction r with
  | nil => rfl
  | cons _ _ ih => simp [ih]
theorem RK.get {xs : List (Key × D)} {ys : List (Key × V)} {k : Key} (r : RK K ρ H xs ys) : (dget xs k = none ∧ valV ys k = none) ∨ ∃ x y, dget xs k = some x ∧ valV ys k = some y ∧ RV K ρ H x y := by
  induction r with
  | nil => exact .inl ⟨rfl, rfl⟩
  | @cons k' x y xs ys a b ih =>
    by_cases e : k' = k
    · exact .inr ⟨x, y, by simp [dget, List.find?_cons, e], by simp [valV, List.find?_cons, e], a⟩
    · rcases ih with ⟨h1, h2⟩ | ⟨x', y', h1, h2, h3⟩
      · exact .inl ⟨by simpa [dget, List.find?_cons, e] using h1, by simpa [valV, List.find?_cons, e] using h2⟩
      · exact .inr ⟨x', y', by simpa [dget, List.find?_cons, e] using h1, by simpa [valV, List.find?_cons, e] using h2, h3⟩
theorem RK.any {xs : List (Key × D)} {ys : List (Key × V)} {k : Key} (r : RK K ρ H xs ys) : (xs.any fun kv => decide (kv.1 = k)) = (ys.any fun kv => decide (kv.1 = k)) := by
  induction r with
  | nil => rfl
  | cons _ _ ih => simp [List.any_cons, ih]
theorem RK.app {xs xs' : List (Key × D)} {ys ys' : List (Key × V)} (r : RK K ρ H xs ys) (s : RK K ρ H xs' ys') : RK K ρ H (xs ++ xs') (ys ++ ys') := by
  induction r with
  | nil => exact s
  | cons a _ ih => exact .cons a ih
theorem RK.map {xs : List (Key × D)} {ys : List (Key × V)} {k : Key} {x : D} {y : V} (a : RV K ρ H x y) (r : RK K ρ H xs ys) : RK K ρ H (xs.map fun kv => if kv.1 = k then (kv.1, x) else kv) (ys.map fun kv => if kv.1 = k then (kv.1, y) else kv) := by
  induction r with
  | nil => exact .nil
  | @cons k' x' y' _ _ b _ ih =>
    simp only [List.map_cons]
    by_cases e : k' = k
    · rw [if_pos e, if_pos e]; exact .cons a ih
    · rw [if_neg e, if_neg e]; exact .cons b ih
theorem RK.put {xs : List (Key × D)} {ys : List (Key × V)} {k : Key} {x : D} {y : V} (a : RV K ρ H x y) (r : RK K ρ H xs ys) : RK K ρ H (dput xs k x) (putK ys k y) := by
  unfold dput putK
  rw [r.any (k := k)]
  split
  · exact r.map a
  · exact r.app (.cons a .nil)
end
def RO (K : PySem.W.Frag) (ρ : List Addr) (H : Hp) : AO → Addr → Prop
  | .lst xs, a => ∃ ys, H a = some (.lst ys) ∧ RVs K ρ H xs ys
  | .dct kvs, a => ∃ ys, H a = some (.dK ys) ∧ RK K ρ H kvs ys
structure RH (K : PySem.W.Frag) (ρ : List Addr) (h : AH) (H : Hp) : Prop where
  len : ρ.length = h.length
  nd : ∀ (n m : Nat) (a : Addr), ρ[n]? = some a → ρ[m]? = some a → n = m
  ob : ∀ (n : Nat) (o : AO) (a : Addr), h[n]? = some o → ρ[n]? = some a → RO K ρ H o a
section
variable {K : PySem.W.Frag} {ρ ρ' : List Addr} {h : AH} {H H' : Hp}
theorem RH.nil {H : Hp} : RH K [] [] H := ⟨rfl, fun n m a e => by simp at e, fun n o a e => by simp at e⟩
theorem RH.at (r : RH K ρ h H) {n : Nat} {o : AO} (e : h[n]? = some o) : ∃ a, ρ[n]? = some a ∧ RO K ρ H o a := by
  have hn : n < h.length := (List.getElem?_eq_some_iff.mp e).1
  have hn' : n < ρ.length := by rw [r.len]; exact hn
  exact ⟨ρ[n], List.getElem?_eq_getElem hn', r.ob n o _ e (List.getElem?_eq_getElem hn')⟩
theorem RH.mut (r : RH K ρ h H) {n : Nat} {a : Addr} (e : ρ[n]? = some a) : Mut (H a) := by
  have hn : n < ρ.length := (List.getElem?_eq_some_iff.mp e).1
  have hn' : n < h.length := by rw [← r.len]; exact hn
  have := r.ob n h[n] a (List.getElem?_eq_getElem hn') e
  cases q : h[n] with
  | lst xs =>
    rw [q] at this
    obtain ⟨ys, e, _⟩ := this
    rw [e]; trivial
  | dct kvs =>
    rw [q] at this
    obtain ⟨ys, e, _⟩ := this
    rw [e]; trivial
theorem SqT.upd_ne {a p : Addr} {o : HO} {ys : List V} (s : SqT K H a ys) (hp : H p = none ∨ Mut (H p)) : SqT K (upd H p o) a ys := by
  rcases s with (s | ⟨ob, s⟩) | s
  · refine .inl (.inl ?_)
    have : a ≠ p := by
      rintro rfl
      rcases hp with hp | hp
      · rw [s] at hp; cases hp
      · rw [s] at hp; exact hp
    rw [L2.upd_ne this]; exact s
  · refine .inl (.inr ⟨ob, ?_⟩)
    have : a ≠ p := by
      rintro rfl
      rcases hp with hp | hp
      · rw [s] at hp; cases hp
      · rw [s] at hp; exact hp
    rw [L2.upd_ne this]; exact s
  · exact .inr s
theorem SqF.upd_ne {a p : Addr} {o : HO} {ys : List V} (s : SqF K H a ys) (hp : H p = none ∨ Mut (H p)) : SqF K (upd H p o) a ys := by
  rcases s with ⟨ob, s⟩ | s
  · refine .inl ⟨ob, ?_⟩
    have : a ≠ p := by
      rintro rfl
      rcases hp with hp | hp
      · rw [s] at hp; cases hp
      · rw [s] at hp; exact hp
    rw [L2.upd_ne this]; exact s
  · exact .inr s
theorem Ext.upd {p : Addr} {o : HO} (hp : H p = none ∨ Mut (H p)) : Ext K ρ H ρ (upd H p o) := ⟨fun _ _ h => h, fun _ _ s => SqT.upd_ne s hp, fun _ _ s => SqF.upd_ne s hp⟩
theorem pre_app {p : Addr} (n : Nat) (a : Addr) (h : ρ[n]? = some a) : (ρ ++ [p])[n]? = some a := by
  rw [List.getElem?_append_left (List.getElem?_eq_some_iff.mp h).1]; exact h
theorem Ext.new {p : Addr} {o : HO} (hp : H p = none) : Ext K ρ H (ρ ++ [p]) (L2.upd H p o) := ⟨pre_app, fun _ _ s => SqT.upd_ne s (.inl hp), fun _ _ s => SqF.upd_ne s (.inl hp)⟩
theorem RO.up {o : AO} {a : Addr} (e : Ext K ρ H ρ' H') (ha : H' a = H a) (r : RO K ρ H o a) : RO K ρ' H' o a := by
  cases o with
  | lst xs => obtain ⟨ys, h1, h2⟩ := r; exact ⟨ys, ha.trans h1, h2.up e⟩
  | dct kvs => obtain ⟨ys, h1, h2⟩ := r; exact ⟨ys, ha.trans h1, h2.up e⟩
theorem RH.laid (r : RH K ρ h H) {p : Addr} {o : HO} (hp : H p = none) : RH K ρ h (L2.upd H p o) :=
  ⟨r.len, r.nd, fun n ob a e1 e2 => (r.ob n ob a e1 e2).up (Ext.upd (.inl hp)) (L2.upd_ne (by
    rintro rfl
    have := r.mut e2
    rw [hp] at this; exact this))⟩
theorem RH.new (r : RH K ρ h H) {p : Addr} {o : AO} {u : HO} (hp : H p = none) (ho : RO K (ρ ++ [p]) (L2.upd H p u) o p) : RH K (ρ ++ [p]) (h ++ [o]) (L2.upd H p u) := by
  have ne : ∀ (n : Nat) (a : Addr), ρ[n]? = some a → a ≠ p := by
    rintro n a e rfl
    have := r.mut e
    rw [hp] at this; exact this
  refine ⟨by simp [r.len], fun n m a e1 e2 => ?_, fun n ob a e1 e2 => ?_⟩
  · by_cases hn : n < ρ.length
    · rw [List.getElem?_append_left hn] at e1
      by_cases hm : m < ρ.length
      · rw [List.getElem?_append_left hm] at e2; exact r.nd n m a e1 e2
      · rw [List.getElem?_append_right (by omega)] at e2
        have : a = p := by
          cases q : m - ρ.length with
          | zero => rw [q] at e2; simpa using e2.symm
          | succ k => rw [q] at e2; simp at e2
        exact absurd this (ne n a e1)
    · rw [List.getElem?_append_right (by omega)] at e1
      have h1 : n = ρ.length ∧ a = p := by
        cases q : n - ρ.length with
        | zero => rw [q] at e1; exact ⟨by omega, by simpa using e1.symm⟩
        | succ k => rw [q] at e1; simp at e1
      by_cases hm : m < ρ.length
      · rw [List.getElem?_append_left hm] at e2
        exact absurd h1.2 (ne m a e2)
      · rw [List.getElem?_append_right (by omega)] at e2
        cases q : m - ρ.length with
        | zero => omega
        | succ k => rw [q] at e2; simp at e2
  · by_cases hn : n < h.length
    · rw [List.getElem?_append_left hn] at e1
      rw [List.getElem?_append_left (by rw [r.len]; exact hn)] at e2
      exact (r.ob n ob a e1 e2).up (Ext.new hp) (L2.upd_ne (ne n a e2))
    · rw [List.getElem?_append_right (by omega)] at e1
      rw [List.getElem?_append_right (by rw [r.len]; omega)] at e2
      cases q : n - h.length with
      | zero =>
        rw [q] at e1
        rw [r.len, q] at e2
        simp at e1 e2
        subst e1 e2
        exact ho
      | succ k => rw [q] at e1; simp at e1
theorem RH.set (r : RH K ρ h H) {n : Nat} {a : Addr} {o : AO} {u : HO} (ha : ρ[n]? = some a) (ho : RO K ρ (L2.upd H a u) o a) : RH K ρ (h.set n o) (L2.upd H a u) := by
  refine ⟨by simp [r.len], r.nd, fun m ob b e1 e2 => ?_⟩
  by_cases hm : n = m
  · subst hm
    rw [ha] at e2; cases e2
    have hn : n < h.length := by rw [← r.len]; exact (List.getElem?_eq_some_iff.mp ha).1
    rw [List.getElem?_set_self hn] at e1; cases e1
    exact ho
  · rw [List.getElem?_set_ne hm] at e1
    refine (r.ob m ob b e1 e2).up (Ext.upd (.inr (r.mut ha))) (L2.upd_ne ?_)
    rintro rfl
    exact hm (r.nd n m b ha e2)
end
end EV
set_option Elab.async false
set_option linter.all false
set_option autoImplicit false
set_option maxRecDepth 100000
namespace EV
open PySem PySem.Spec PyProof.Rows L2
abbrev Fr := List (Option D)
abbrev EF := Fr → AH → R D
abbrev TF := Fr → AH → R Bool
abbrev AF := Fr → AH → R (List D)
inductive Fl where
  | next (σ : Fr) | brk (σ : Fr) | cont (σ : Fr) | ret (v : D)
abbrev SF := Fr → AH → R Fl
abbrev GF := D → Fr → AH → R Fr
structure RS (K : PySem.W.Frag) (ρ : List Addr) (H : Hp) (σa : Fr) (σ : L2.St) : Prop where
  len : σa.length = σ.length
  at_ : ∀ (i : Nat) (d : D), σa[i]? = some (some d) → ∃ v, σ[i]? = some (some v) ∧ RV K ρ H d v
section
variable {K : PySem.W.Frag} {ρ ρ' : List Addr} {H H' : Hp} {σa : Fr} {σ : L2.St}
theorem RS.up (r : RS K ρ H σa σ) (e : Ext K ρ H ρ' H') : RS K ρ' H' σa σ := ⟨r.len, fun i d h => let ⟨v, h1, h2⟩ := r.at_ i d h; ⟨v, h1, h2.up e⟩⟩
theorem RS.set (r : RS K ρ H σa σ) {d : D} {v : V} (i : Nat) (rv : RV K ρ H d v) : RS K ρ H (σa.set i (some d)) (σ.set i (some v)) := by
  refine ⟨by simp [r.len], fun j x h => ?_⟩
  by_cases e : i = j
  · subst e
    by_cases hi : i < σa.length
    · rw [List.getElem?_set_self hi] at h; cases h
      exact ⟨v, List.getElem?_set_self (by rw [← r.len]; exact hi), rv⟩
    · rw [List.getElem?_eq_none (by simpa using hi)] at h; cases h
  · rw [List.getElem?_set_ne e] at h ⊢
    exact r.at_ j x h
def wipeD (σ : Fr) : List Nat → Fr
  | [] => σ
  | v :: vs => (wipeD σ vs).set v none
theorem RS.forget (r : RS K ρ H σa σ) (i : Nat) : RS K ρ H (σa.set i none) (σ.set i none) := by
  refine ⟨by simp [r.len], fun j x h => ?_⟩
  by_cases e : i = j
  · subst e
    by_cases hi : i < σa.length
    · rw [List.getElem?_set_self hi] at h; cases h
    · rw [List.getElem?_eq_none (by simpa using hi)] at h; cases h
  · rw [List.getElem?_set_ne e] at h ⊢
    exact r.at_ j x h
theorem RS.wipe (r : RS K ρ H σa σ) : ∀ vs : List Nat, RS K ρ H (wipeD σa vs) (L2.wipe σ vs)
  | [] => r
  | v :: vs => (RS.wipe r vs).forget v
end
def tE (K : PySem.W.Frag) (f : EF) : TE := fun σ H Q => ∃ ρ σa h v h', RH K ρ h H ∧ RS K ρ H σa σ ∧ f σa h = .ok v h' ∧ ∀ ρ' y H', Ext K ρ H ρ' H' → RH K ρ' h' H' → RV K ρ' H' v y → Q y H'
def tT (K : PySem.W.Frag) (f : TF) : TT := fun σ H Q => ∃ ρ σa h b h', RH K ρ h H ∧ RS K ρ H σa σ ∧ f σa h = .ok b h' ∧ ∀ ρ' H', Ext K ρ H ρ' H' → RH K ρ' h' H' → Q b H'
def tA (K : PySem.W.Frag) (f : AF) : TA := fun σ H Q => ∃ ρ σa h vs h', RH K ρ h H ∧ RS K ρ H σa σ ∧ f σa h = .ok vs h' ∧ ∀ ρ' ys H', Ext K ρ H ρ' H' → RH K ρ' h' H' → RVs K ρ' H' vs ys → Q ys H'
def Post (K : PySem.W.Frag) (ρ : List Addr) (H : Hp) (D : Ends) : Fl → Prop
  | .next σa => ∀ σ, RS K ρ H σa σ → D.nx σ H
  | .brk σa => ∀ σ, RS K ρ H σa σ → D.bk σ H
  | .cont σa => ∀ σ, RS K ρ H σa σ → D.ct σ H
  | .ret v => ∀ y, RV K ρ H v y → D.rt y H
def tS (K : PySem.W.Frag) (f : SF) : TS := fun D σ H => ∃ ρ σa h fl h', RH K ρ h H ∧ RS K ρ H σa σ ∧ f σa h = .ok fl h' ∧ ∀ ρ' H', Ext K ρ H ρ' H' → RH K ρ' h' H' → Post K ρ' H' D fl
structure Out (vs : List Nat) (σ σ' : L2.St) : Prop where
  len : σ'.length = σ.length
  eq : ∀ i : Nat, i ∉ vs → σ'[i]? = σ[i]?
def tG (K : PySem.W.Frag) (vs : List Nat) (g : GF) : TG := fun v σ H Q => ∃ ρ σa h d σa' h', RH K ρ h H ∧ RS K ρ H σa σ ∧ RV K ρ H d v ∧ g d σa h = .ok σa' h' ∧ ∀ ρ' σ' H', Ext K ρ H ρ' H' → RH K ρ' h' H' → RS K ρ' H' σa' σ' → Out vs σ σ' → Q σ' H'
structure SE (X : Cx) (e : Expr) (f : EF) : Prop where
  out : PE X e (tE X.K f)
structure ST (X : Cx) (e : Expr) (f : TF) : Prop where
  out : PT X e (tT X.K f)
structure SW (X : Cx) (e : Expr) (f : TF) : Prop where
  out : PW X e (tT X.K f)
structure SA (X : Cx) (es : List Expr) (f : AF) : Prop where
  out : PA X es (tA X.K f)
structure SS (X : Cx) (st : Stmt) (f : SF) : Prop where
  out : PS X st (tS X.K f)
structure SSs (X : Cx) (st : List Stmt) (f : SF) : Prop where
  out : PSs X st (tS X.K f)
structure SG (X : Cx) (tg : Expr) (vs : List Nat) (g : GF) : Prop where
  out : PG X tg (tG X.K vs g)
section
variable {X : Cx} {e : Expr}
theorem PE.of {t t' : TE} (h : PE X e t) (i : ∀ σ H Q, t' σ H Q → t σ H Q) : PE X e t' := fun pins s σ H Q I q => h pins s σ H Q I (i σ H Q q)
theorem PT.of {t t' : TT} (h : PT X e t) (i : ∀ σ H Q, t' σ H Q → t σ H Q) : PT X e t' := fun pins s σ H Q I q => h pins s σ H Q I (i σ H Q q)
theorem PW.of {t t' : TT} (h : PW X e t) (i : ∀ σ H Q, t' σ H Q → t σ H Q) : PW X e t' := fun whole pins s σ H Q I q => h whole pins s σ H Q I (i σ H Q q)
theorem PA.of {es : List Expr} {t t' : TA} (h : PA X es t) (i : ∀ σ H Q, t' σ H Q → t σ H Q) : PA X es t' := fun pos pins s σ H Q I q => h pos pins s σ H Q I (i σ H Q q)
theorem PS.of {st : Stmt} {t t' : TS} (h : PS X st t) (i : ∀ D σ H, t' D σ H → t D σ H) : PS X st t' := fun pins s σ H D I q => h pins s σ H D I (i D σ H q)
theorem PSs.of {st : List Stmt} {t t' : TS} (h : PSs X st t) (i : ∀ D σ H, t' D σ H → t D σ H) : PSs X st t' := fun pins s σ H D I q => h pins s σ H D I (i D σ H q)
theorem PG.of {tg : Expr} {t t' : TG} (h : PG X tg t) (i : ∀ v σ H Q, t' v σ H Q → t v σ H Q) : PG X tg t' := fun pins s σ H v u Q I r q => h pins s σ H v u Q I r (i v σ H Q q)
end
def eVar (i : Nat) : EF := fun σ h => match σ[i]? with | some (some d) => .ok d h | _ => .bad
def eK (d : D) : EF := fun _ h => .ok d h
section
variable {X : Cx}
theorem se_var (i : Nat) {x : Str} {pos : Pos} (hN : X.N[i]? = some x := by rfl) (hv : Vis X.env.scope x := by first | exact Or.inl rfl | exact Or.inr (Or.inl rfl) | exact Or.inr (Or.inr rfl)) (hd : (x == ("__debug__" : Str)) = false := by decide +kernel)
    (hcd : (x == ("__classdict__" : Str)) = false := by decide +kernel) : SE X (.Name x pos) (eVar i) := ⟨PE.of (pe_var hN hv hd hcd) fun σ H Q q => by
  obtain ⟨ρ, σa, h, v, h', rh, rs, e, k⟩ := q
  unfold eVar at e
  split at e
  · rename_i d q
    cases e
    obtain ⟨y, h1, h2⟩ := rs.at_ i _ q
    exact ⟨y, h1, k ρ y H Ext.refl rh h2⟩
  · cases e⟩
theorem se_int {i : Int} {j : Nat} {pos : Pos} : SE X (.Constant (.int i) j pos) (eK (.int i)) := ⟨PE.of pe_int fun σ H Q q => by
  obtain ⟨ρ, σa, h, v, h', rh, rs, e, k⟩ := q
  cases e
  exact k ρ _ H Ext.refl rh (.int i)⟩
theorem se_bl {i : Bool} {j : Nat} {pos : Pos} : SE X (.Constant (.bool i) j pos) (eK (.bl i)) := ⟨PE.of pe_bl fun σ H Q q => by
  obtain ⟨ρ, σa, h, v, h', rh, rs, e, k⟩ := q
  cases e
  exact k ρ _ H Ext.refl rh (.bl i)⟩
theorem se_str {i : Str} {j : Nat} {pos : Pos} : SE X (.Constant (.str i) j pos) (eK (.str i)) := ⟨PE.of pe_str fun σ H Q q => by
  obtain ⟨ρ, σa, h, v, h', rh, rs, e, k⟩ := q
  cases e
  exact k ρ _ H Ext.refl rh (.str i)⟩
theorem se_non {j : Nat} {pos : Pos} : SE X (.Constant .none j pos) (eK .non) := ⟨PE.of pe_non fun σ H Q q => by
  obtain ⟨ρ, σa, h, v, h', rh, rs, e, k⟩ := q
  cases e
  exact k ρ _ H Ext.refl rh .non⟩
def GlD (K : PySem.W.Frag) (d : D) (u : Value) : Prop := ∃ y, RelV y u ∧ ∀ ρ H, RV K ρ H d y
theorem se_glob {x : Str} {d : D} {u : Value} {pos : Pos} (hg : Gl X x) (hm : X.mg x = some u) (r : GlD X.K d u) (hd : (x == ("__debug__" : Str)) = false := by decide +kernel) : SE X (.Name x pos) (eK d) := by
  obtain ⟨y, r1, r2⟩ := r
  exact ⟨PE.of (pe_glob hg hm r1 hd) fun σ H Q q => by
    obtain ⟨ρ, σa, h, v, h', rh, rs, e, k⟩ := q
    cases e
    exact k ρ _ H Ext.refl rh (r2 ρ H)⟩
theorem se_globE {x : Str} {d : D} {pos : Pos} (hg : Gl X x) (h : ∃ u, X.mg x = some u ∧ GlD X.K d u) (hd : (x == ("__debug__" : Str)) = false := by decide +kernel) : SE X (.Name x pos) (eK d) := by
  obtain ⟨u, h1, h2⟩ := h
  exact se_glob hg h1 h2 hd
abbrev Op2 := D → D → AH → R D
def OpS (K : PySem.W.Frag) (o : Op2) (r : R2) : Prop := ∀ (ρ : List Addr) (h : AH) (H : Hp) (x y : D) (x' y' : V) (v : D) (h' : AH) (Q : VK), RH K ρ h H → RV K ρ H x x' → RV K ρ H y y' → o x y h = .ok v h' →
  (∀ ρ' z H', Ext K ρ H ρ' H' → RH K ρ' h' H' → RV K ρ' H' v z → Q z H') → r x' y' H Q
def eBin (o : Op2) (f g : EF) : EF := fun σ h => (f σ h).bind fun x h1 => (g σ h1).bind fun y h2 => o x y h2
theorem bin_in {K : PySem.W.Frag} {o : Op2} {r : R2} {f g : EF} (hs : OpS K o r) : ∀ σ H Q, tE K (eBin o f g) σ H Q → tOp r (tE K f) (tE K g) σ H Q := fun σ H Q q => by
  obtain ⟨ρ, σa, h, v, h', rh, rs, e, k⟩ := q
  obtain ⟨x, h1, e1, e⟩ := bind_eq e
  obtain ⟨y, h2, e2, e⟩ := bind_eq e
  exact ⟨ρ, σa, h, x, h1, rh, rs, e1, fun ρ1 x' H1 p1 rh1 rx => ⟨ρ1, σa, h1, y, h2, rh1, rs.up p1, e2, fun ρ2 y' H2 p2 rh2 ry =>
    hs ρ2 h2 H2 x y x' y' v h' Q rh2 (rx.up p2) ry e fun ρ3 z H3 p3 rh3 rz => k ρ3 z H3 (p1.trans (p2.trans p3)) rh3 rz⟩⟩
theorem se_bin {op : Operator} {o : Op2} {r : R2} {a b : Expr} {f g : EF} {pos : Pos} (ho : OpR X (binaryOp op) r) (hs : OpS X.K o r) (ha : SE X a f) (hb : SE X b g) : SE X (.BinOp a op b pos) (eBin o f g) :=
  ⟨PE.of (pe_op ho ha.out hb.out) (bin_in hs)⟩
theorem OpS.or {K : PySem.W.Frag} {o p q : Op2} {r r' : R2} (h : OpS K p r) (h' : OpS K q r') (hd : ∀ x y k v k', o x y k = .ok v k' → p x y k = .ok v k' ∨ q x y k = .ok v k') : OpS K o (fun x y H Q => r x y H Q ∨ r' x y H Q) :=
  fun ρ k H x y x' y' v k' Q rh rx ry e c => by
    rcases hd x y k v k' e with e | e
    · exact .inl (h ρ k H x y x' y' v k' Q rh rx ry e c)
    · exact .inr (h' ρ k H x y x' y' v k' Q rh rx ry e c)
def oI (C : Int → Int → Prop) [∀ i j, Decidable (C i j)] (g : Int → Int → D) : Op2 := fun x y h => match x, y with
  | .int i, .int j => if C i j then .ok (g i j) h else .bad
  | _, _ => .bad
theorem ops_I {K : PySem.W.Frag} {C C' : Int → Int → Prop} [∀ i j, Decidable (C i j)] {g : Int → Int → D} {gv : Int → Int → V} (hC : ∀ i j, C i j → C' i j) (hg : ∀ ρ H i j, RV K ρ H (g i j) (gv i j)) : OpS K (oI C g) (rI C' gv) := by
  intro ρ h H x y x' y' v h' Q rh rx ry e k
  unfold oI at e
  split at e
  · rename_i i j
    split at e
    · rename_i c
      cases e
      cases rx
      cases ry
      exact ⟨i, j, rfl, rfl, hC _ _ c, k ρ _ H Ext.refl rh (hg ρ H i j)⟩
    · cases e
  · cases e
def oI0 (g : Int → Int → D) : Op2 := fun x y h => match x, y with
  | .int i, .int j => .ok (g i j) h
  | _, _ => .bad
theorem ops_I0 {K : PySem.W.Frag} {g : Int → Int → D} {gv : Int → Int → V} (hg : ∀ ρ H i j, RV K ρ H (g i j) (gv i j)) : OpS K (oI0 g) (rI0 gv) := by
  intro ρ h H x y x' y' v h' Q rh rx ry e k
  unfold oI0 at e
  split at e
  · rename_i i j
    cases e
    cases rx
    cases ry
    exact ⟨i, j, rfl, rfl, k ρ _ H Ext.refl rh (hg ρ H i j)⟩
  · cases e
def oAdd : Op2 := oI0 fun i j => .int (i + j)
def oSub : Op2 := oI0 fun i j => .int (i - j)
def Few (i : Int) : Prop := Builtin.Int.intBits i ≤ 2 ^ 20
instance : DecidablePred Few := fun i => inferInstanceAs (Decidable (_ ≤ _))
def CMulF (i j : Int) : Prop := CMul i j ∨ (Few i ∧ Few j)
instance (i j : Int) : Decidable (CMulF i j) := inferInstanceAs (Decidable (((_ ∧ _) ∨ (_ ∧ _)) ∨ (_ ∧ _)))
theorem op_mulF : OpR X (binaryOp .Mult) (rI CMulF fun i j => .int (i * j)) := opI fun _ _ _ _ _ _ _ hc q => by
  rcases hc with hc | hc
  · exact mul_int q hc.ok
  · exact mul_int q (IntMulOk.of_bits hc.1 hc.2)
def oMul : Op2 := oI CMulF fun i j => .int (i * j)
def CDivF (_ j : Int) : Prop := j ≠ 0 ∧ j.natAbs.log2 < 9000
instance (i j : Int) : Decidable (CDivF i j) := inferInstanceAs (Decidable (_ ∧ _))
theorem op_fdivF : OpR X (binaryOp .FloorDiv) (rI CDivF fun i j => .int (i.fdiv j)) := opI fun _ _ _ _ _ _ _ hc q => floordiv_int hc.1 q (.inl (PyProof.noPylong_of_log2 hc.2))
def oFdiv : Op2 := oI CDivF fun i j => .int (i.fdiv j)
theorem se_fdiv {a b : Expr} {f g : EF} {pos : Pos} (ha : SE X a f) (hb : SE X b g) : SE X (.BinOp a .FloorDiv b pos) (eBin oFdiv f g) := se_bin op_fdivF (ops_I (fun _ _ c => c) fun _ _ _ _ => .int _) ha hb
def oMod : Op2 := oI (fun _ j => j ≠ 0) fun i j => .int (i.fmod j)
theorem se_mod {a b : Expr} {f g : EF} {pos : Pos} (ha : SE X a f) (hb : SE X b g) : SE X (.BinOp a .Mod b pos) (eBin oMod f g) := se_bin op_modN (ops_I (fun _ _ c => c) fun _ _ _ _ => .int _) ha hb
instance (i j : Int) : Decidable (CPow i j) := inferInstanceAs (Decidable (_ ∧ _ ∧ _))
def oPow : Op2 := oI CPow fun i j => .int (i ^ j.toNat)
theorem se_pow {a b : Expr} {f g : EF} {pos : Pos} (ha : SE X a f) (hb : SE X b g) : SE X (.BinOp a .Pow b pos) (eBin oPow f g) := se_bin op_pow (ops_I (fun _ _ c => c) fun _ _ _ _ => .int _) ha hb
def eNeg (f : EF) : EF := fun σ h => (f σ h).bind fun x h1 => match x with | .int i => .ok (.int (-i)) h1 | _ => .bad
theorem se_neg {a : Expr} {f : EF} {pos : Pos} (ha : SE X a f) : SE X (.UnaryOp .USub a pos) (eNeg f) := ⟨PE.of (pe_un un_neg ha.out) fun σ H Q q => by
  obtain ⟨ρ, σa, h, v, h', rh, rs, e, k⟩ := q
  obtain ⟨x, h1, e1, e⟩ := bind_eq e
  refine ⟨ρ, σa, h, x, h1, rh, rs, e1, fun ρ1 x' H1 p1 rh1 rx => ?_⟩
  split at e
  · cases e
    cases rx
    exact ⟨_, rfl, k ρ1 _ H1 p1 rh1 (.int _)⟩
  · cases e⟩
theorem se_cmp {op : CmpOp} {o : Op2} {r : R2} {a b : Expr} {f g : EF} {pos : Pos} (ho : OpR X (compareOp op) r) (hs : OpS X.K o r) (ha : SE X a f) (hb : SE X b g) (hm : behindInMarks op b = false) : SE X (.Compare a [op] [b] pos) (eBin o f g) :=
  ⟨PE.of (pe_cmpR ho ha.out hb.out hm) (bin_in hs)⟩
def tB (f : EF) : TF := fun σ h => (f σ h).bind fun x h1 => match x with | .bl b => .ok b h1 | _ => .bad
theorem tb_in {K : PySem.W.Frag} {f : EF} : ∀ σ H Q, tT K (tB f) σ H Q → tTest (tE K f) σ H Q := fun σ H Q q => by
  obtain ⟨ρ, σa, h, v, h', rh, rs, e, k⟩ := q
  obtain ⟨x, h1, e1, e⟩ := bind_eq e
  refine ⟨ρ, σa, h, x, h1, rh, rs, e1, fun ρ1 x' H1 p1 rh1 rx => ?_⟩
  split at e
  · cases e
    cases rx
    exact ⟨_, rfl, k ρ1 H1 p1 rh1⟩
  · cases e
theorem tTest_mono {t t' : TE} (hm : ∀ σ H Q, t' σ H Q → t σ H Q) : ∀ σ H Q, tTest t' σ H Q → tTest t σ H Q := fun σ H Q q => hm σ H _ q
theorem st_cmp {op : CmpOp} {o : Op2} {r : R2} {a b : Expr} {f g : EF} {pos : Pos} (ho : OpR X (compareOp op) r) (hs : OpS X.K o r) (ha : SE X a f) (hb : SE X b g) (hm : behindInMarks op b = false) : ST X (.Compare a [op] [b] pos) (tB (eBin o f g)) :=
  ⟨PT.of (pt_cmpR ho ha.out hb.out hm) fun σ H Q q => tTest_mono (bin_in hs) σ H Q (tb_in σ H Q q)⟩
def oLt : Op2 := oI0 fun i j => .bl (decide (i < j))
def oLe : Op2 := oI0 fun i j => .bl (decide (i ≤ j))
def oGt : Op2 := oI0 fun i j => .bl (decide (j < i))
def oGe : Op2 := oI0 fun i j => .bl (decide (j ≤ i))
theorem sp_lt {K : PySem.W.Frag} : OpS K oLt (rI0 fun i j => .bl (decide (i < j))) := ops_I0 fun _ _ _ _ => .bl _
theorem sp_le {K : PySem.W.Frag} : OpS K oLe (rI0 fun i j => .bl (decide (i ≤ j))) := ops_I0 fun _ _ _ _ => .bl _
theorem sp_gt {K : PySem.W.Frag} : OpS K oGt (rI0 fun i j => .bl (decide (j < i))) := ops_I0 fun _ _ _ _ => .bl _
theorem sp_ge {K : PySem.W.Frag} : OpS K oGe (rI0 fun i j => .bl (decide (j ≤ i))) := ops_I0 fun _ _ _ _ => .bl _
def oIsN : Op2 := fun x y h => match y with
  | .non => .ok (.bl (match x with | .non => true | _ => false)) h
  | _ => .bad
def oNotN : Op2 := fun x y h => match y with
  | .non => .ok (.bl (match x with | .non => false | _ => true)) h
  | _ => .bad
theorem st_val {e : Expr} {f : EF} (h : SE X e f) (he : ∀ whole, isTrue e X.env whole = (do let v ← whole; standAt e.pos; holding [v] (truthy v)) := by intro _; rfl) : ST X e (tB f) :=
  ⟨PT.of (pt_val h.out he) fun σ H Q q => tb_in σ H Q q⟩
def tAnd2 (f g : TF) : TF := fun σ h => (f σ h).bind fun b h1 => if b = true then g σ h1 else .ok false h1
def tOr2 (f g : TF) : TF := fun σ h => (f σ h).bind fun b h1 => if b = true then .ok true h1 else g σ h1
def tNot1 (f : TF) : TF := fun σ h => (f σ h).bind fun b h1 => .ok (!b) h1
theorem sw_and1 {a : Expr} {f : TF} {pos : Pos} (h : ST X a f) : SW X (.BoolOp .And [a] pos) f := ⟨pw_and1 h.out⟩
theorem sw_or1 {a : Expr} {f : TF} {pos : Pos} (h : ST X a f) : SW X (.BoolOp .Or [a] pos) f := ⟨pw_or1 h.out⟩
theorem sw_and {a b : Expr} {rest : List Expr} {f g : TF} {pos : Pos} (ha : ST X a f) (hb : SW X (.BoolOp .And (b :: rest) pos) g) : SW X (.BoolOp .And (a :: b :: rest) pos) (tAnd2 f g) :=
  ⟨PW.of (pw_and ha.out hb.out) fun σ H Q q => by
    obtain ⟨ρ, σa, h, v, h', rh, rs, e, k⟩ := q
    obtain ⟨x, h1, e1, e⟩ := bind_eq e
    refine ⟨ρ, σa, h, x, h1, rh, rs, e1, fun ρ1 H1 p1 rh1 => ?_⟩
    cases x with
    | true => exact ⟨ρ1, σa, h1, v, h', rh1, rs.up p1, e, fun ρ2 H2 p2 rh2 => k ρ2 H2 (p1.trans p2) rh2⟩
    | false => cases e; exact k ρ1 H1 p1 rh1⟩
theorem sw_or {a b : Expr} {rest : List Expr} {f g : TF} {pos : Pos} (ha : ST X a f) (hb : SW X (.BoolOp .Or (b :: rest) pos) g) : SW X (.BoolOp .Or (a :: b :: rest) pos) (tOr2 f g) :=
  ⟨PW.of (pw_or ha.out hb.out) fun σ H Q q => by
    obtain ⟨ρ, σa, h, v, h', rh, rs, e, k⟩ := q
    obtain ⟨x, h1, e1, e⟩ := bind_eq e
    refine ⟨ρ, σa, h, x, h1, rh, rs, e1, fun ρ1 H1 p1 rh1 => ?_⟩
    cases x with
    | true => cases e; exact k ρ1 H1 p1 rh1
    | false => exact ⟨ρ1, σa, h1, v, h', rh1, rs.up p1, e, fun ρ2 H2 p2 rh2 => k ρ2 H2 (p1.trans p2) rh2⟩⟩
theorem st_w {e : Expr} {f : TF} (h : SW X e f) : ST X e f := ⟨h.out.pt⟩
theorem st_not {a : Expr} {f : TF} {pos : Pos} (h : ST X a f) : ST X (.UnaryOp .Not a pos) (tNot1 f) := ⟨PT.of (pt_not h.out) fun σ H Q q => by
    obtain ⟨ρ, σa, h, v, h', rh, rs, e, k⟩ := q
    obtain ⟨x, h1, e1, e⟩ := bind_eq e
    cases e
    exact ⟨ρ, σa, h, x, h', rh, rs, e1, fun ρ1 H1 p1 rh1 => k ρ1 H1 p1 rh1⟩⟩
def eAnd2 (f g : EF) : EF := fun σ h => (f σ h).bind fun x h1 => match x with | .bl true => g σ h1 | .bl false => .ok (.bl false) h1 | _ => .bad
def eOr2 (f g : EF) : EF := fun σ h => (f σ h).bind fun x h1 => match x with | .bl true => .ok (.bl true) h1 | .bl false => g σ h1 | _ => .bad
def eNot1 (f : EF) : EF := fun σ h => (f σ h).bind fun x h1 => match x with | .bl b => .ok (.bl (!b)) h1 | _ => .bad
theorem se_one {op : BoolOp} {a : Expr} {f : EF} {pos : Pos} (h : SE X a f) : SE X (.BoolOp op [a] pos) f := ⟨pe_one h.out⟩
theorem se_and {a b : Expr} {rest : List Expr} {f g : EF} {pos : Pos} (ha : SE X a f) (hb : SE X (.BoolOp .And (b :: rest) pos) g) : SE X (.BoolOp .And (a :: b :: rest) pos) (eAnd2 f g) :=
  ⟨PE.of (pe_and ha.out hb.out) fun σ H Q q => by
    obtain ⟨ρ, σa, h, v, h', rh, rs, e, k⟩ := q
    obtain ⟨x, h1, e1, e⟩ := bind_eq e
    refine ⟨ρ, σa, h, x, h1, rh, rs, e1, fun ρ1 x' H1 p1 rh1 rx => ?_⟩
    split at e
    · cases rx
      exact ⟨true, rfl, ρ1, σa, h1, v, h', rh1, rs.up p1, e, fun ρ2 y H2 p2 rh2 ry => k ρ2 y H2 (p1.trans p2) rh2 ry⟩
    · cases rx
      cases e
      exact ⟨false, rfl, k ρ1 _ H1 p1 rh1 (.bl false)⟩
    · cases e⟩
theorem se_or {a b : Expr} {rest : List Expr} {f g : EF} {pos : Pos} (ha : SE X a f) (hb : SE X (.BoolOp .Or (b :: rest) pos) g) : SE X (.BoolOp .Or (a :: b :: rest) pos) (eOr2 f g) :=
  ⟨PE.of (pe_or ha.out hb.out) fun σ H Q q => by
    obtain ⟨ρ, σa, h, v, h', rh, rs, e, k⟩ := q
    obtain ⟨x, h1, e1, e⟩ := bind_eq e
    refine ⟨ρ, σa, h, x, h1, rh, rs, e1, fun ρ1 x' H1 p1 rh1 rx => ?_⟩
    split at e
    · cases rx
      cases e
      exact ⟨true, rfl, k ρ1 _ H1 p1 rh1 (.bl true)⟩
    · cases rx
      exact ⟨false, rfl, ρ1, σa, h1, v, h', rh1, rs.up p1, e, fun ρ2 y H2 p2 rh2 ry => k ρ2 y H2 (p1.trans p2) rh2 ry⟩
    · cases e⟩
theorem se_not {a : Expr} {f : EF} {pos : Pos} (h : SE X a f) : SE X (.UnaryOp .Not a pos) (eNot1 f) := ⟨PE.of (pe_not h.out) fun σ H Q q => by
    obtain ⟨ρ, σa, h, v, h', rh, rs, e, k⟩ := q
    obtain ⟨x, h1, e1, e⟩ := bind_eq e
    refine ⟨ρ, σa, h, x, h1, rh, rs, e1, fun ρ1 x' H1 p1 rh1 rx => ?_⟩
    split at e
    · cases rx
      cases e
      exact ⟨_, rfl, k ρ1 _ H1 p1 rh1 (.bl _)⟩
    · cases e⟩
def eChain (o o' : Op2) (f g k : EF) : EF := fun σ h => (f σ h).bind fun x h1 => (g σ h1).bind fun y h2 => (o x y h2).bind fun z h3 => match z with
  | .bl true => (k σ h3).bind fun w h4 => o' y w h4
  | .bl false => .ok (.bl false) h3
  | _ => .bad
theorem chain_in {K : PySem.W.Frag} {o o' : Op2} {r r' : R2} {f g c : EF} (hs : OpS K o r) (hs' : OpS K o' r') : ∀ σ H Q, tE K (eChain o o' f g c) σ H Q → tChain r r' (tE K f) (tE K g) (tE K c) σ H Q := fun σ H Q q => by
  obtain ⟨ρ, σa, h, v, h', rh, rs, e, k⟩ := q
  obtain ⟨x, h1, e1, e⟩ := bind_eq e
  obtain ⟨y, h2, e2, e⟩ := bind_eq e
  obtain ⟨z, h3, e3, e⟩ := bind_eq e
  refine ⟨ρ, σa, h, x, h1, rh, rs, e1, fun ρ1 x' H1 p1 rh1 rx => ⟨ρ1, σa, h1, y, h2, rh1, rs.up p1, e2, fun ρ2 y' H2 p2 rh2 ry => ?_⟩⟩
  refine hs ρ2 h2 H2 x y x' y' z h3 _ rh2 (rx.up p2) ry e3 fun ρ3 z' H3 p3 rh3 rz => ?_
  split at e
  · cases rz
    obtain ⟨w, h4, e4, e⟩ := bind_eq e
    refine ⟨true, rfl, ?_⟩
    rw [if_pos rfl]
    exact ⟨ρ3, σa, h3, w, h4, rh3, rs.up (p1.trans (p2.trans p3)), e4, fun ρ4 w' H4 p4 rh4 rw' =>
      hs' ρ4 h4 H4 y w y' w' v h' Q rh4 (ry.up (p3.trans p4)) rw' e fun ρ5 u H5 p5 rh5 ru => k ρ5 u H5 (p1.trans (p2.trans (p3.trans (p4.trans p5)))) rh5 ru⟩
  · cases rz
    cases e
    refine ⟨false, rfl, ?_⟩
    rw [if_neg Bool.false_ne_true]
    exact k ρ3 _ H3 (p1.trans (p2.trans p3)) rh3 (.bl false)
  · cases e
theorem se_chain {op op' : CmpOp} {o o' : Op2} {r r' : R2} {a b c : Expr} {f g k : EF} {pos : Pos} (ho : OpR X (compareOp op) r) (hs : OpS X.K o r) (ho' : OpR X (compareOp op') r') (hs' : OpS X.K o' r') (ha : SE X a f) (hb : SE X b g) (hc : SE X c k) (hm : lastMarks [op, op'] [b, c] = false := by with_unfolding_all rfl) : SE X (.Compare a [op, op'] [b, c] pos) (eChain o o' f g k) :=
  ⟨PE.of (pe_chain ho ho' ha.out hb.out hc.out hm) (chain_in hs hs')⟩
theorem st_chain {op op' : CmpOp} {o o' : Op2} {r r' : R2} {a b c : Expr} {f g k : EF} {pos : Pos} (ho : OpR X (compareOp op) r) (hs : OpS X.K o r) (ho' : OpR X (compareOp op') r') (hs' : OpS X.K o' r') (ha : SE X a f) (hb : SE X b g) (hc : SE X c k) (hm : lastMarks [op, op'] [b, c] = false := by with_unfolding_all rfl) : ST X (.Compare a [op, op'] [b, c] pos) (tB (eChain o o' f g k)) :=
  ⟨PT.of (pt_chain ho ho' ha.out hb.out hc.out hm) fun σ H Q q => tTest_mono (chain_in hs hs') σ H Q (tb_in σ H Q q)⟩
end
end EV
set_option Elab.async false
set_option linter.all false
set_option autoImplicit false
set_option maxRecDepth 100000
namespace EV
open PySem PySem.Spec PyProof.Rows L2
def aNil : AF := fun _ h => .ok [] h
def aCons (f : EF) (g : AF) : AF := fun σ h => (f σ h).bind fun x h1 => (g σ h1).bind fun xs h2 => .ok (x :: xs) h2
section
variable {X : Cx}
theorem sa_nil : SA X [] aNil := ⟨PA.of pa_nil fun σ H Q q => by
  obtain ⟨ρ, σa, h, v, h', rh, rs, e, k⟩ := q
  cases e
  exact k ρ _ H Ext.refl rh .nil⟩
theorem sa_cons {e : Expr} {es : List Expr} {f : EF} {g : AF} (ha : SE X e f) (hr : SA X es g) (hs : starEach (e :: es) X.env = (false, eval e X.env) :: starEach es X.env := by rfl) : SA X (e :: es) (aCons f g) := ⟨PA.of (pa_cons ha.out hr.out hs) fun σ H Q q => by
  obtain ⟨ρ, σa, h, v, h', rh, rs, e, k⟩ := q
  obtain ⟨x, h1, e1, e⟩ := bind_eq e
  obtain ⟨xs, h2, e2, e⟩ := bind_eq e
  cases e
  exact ⟨ρ, σa, h, x, h1, rh, rs, e1, fun ρ1 x' H1 p1 rh1 rx => ⟨ρ1, σa, h1, xs, h', rh1, rs.up p1, e2, fun ρ2 ys H2 p2 rh2 ry => k ρ2 _ H2 (p1.trans p2) rh2 (.cons (rx.up p2) ry)⟩⟩⟩
theorem RV.newTup {K : PySem.W.Frag} {ρ : List Addr} {H : Hp} {xs : List D} {ys : List V} {p : Addr} (r : RVs K ρ H xs ys) (hp : H p = none) : RV K ρ (upd H p (.tup ys)) (.tup xs) (.ref p) :=
  .tup (SqT.of upd_same) (r.up (Ext.upd (.inl hp)))
theorem ref_new {K : PySem.W.Frag} {ρ : List Addr} {H : Hp} {h : AH} {p : Addr} (rh : RH K ρ h H) (H' : Hp) : RV K (ρ ++ [p]) H' (.ref h.length) (.ref p) :=
  .ref (by rw [← rh.len, List.getElem?_append_right (Nat.le_refl _)]; simp)
def newL (xs : List D) (h : AH) : R D := .ok (.ref h.length) (h ++ [.lst xs])
theorem newL_ok {K : PySem.W.Frag} {ρ : List Addr} {H : Hp} {h : AH} {p : Addr} {xs : List D} {ys : List V} (rh : RH K ρ h H) (r : RVs K ρ H xs ys) (hp : H p = none) :
    Ext K ρ H (ρ ++ [p]) (upd H p (.lst ys)) ∧ RH K (ρ ++ [p]) (h ++ [.lst xs]) (upd H p (.lst ys)) ∧ RV K (ρ ++ [p]) (upd H p (.lst ys)) (.ref h.length) (.ref p) :=
  ⟨Ext.new hp, rh.new hp ⟨ys, upd_same, r.up (Ext.new hp)⟩, ref_new rh _⟩
def eTup (f : AF) : EF := fun σ h => (f σ h).bind fun xs h1 => if xs.length ≤ sizeLine then .ok (.tup xs) h1 else .bad
def eLst (f : AF) : EF := fun σ h => (f σ h).bind fun xs h1 => if xs.length ≤ sizeLine then newL xs h1 else .bad
theorem se_tup {es : List Expr} {f : AF} {k : Nat} {pos : Pos} (ha : SA X es f) : SE X (.Tuple es k pos) (eTup f) := ⟨PE.of (pe_tup ha.out) fun σ H Q q => by
  obtain ⟨ρ, σa, h, v, h', rh, rs, e, k⟩ := q
  obtain ⟨xs, h1, e1, e⟩ := bind_eq e
  split at e
  · rename_i hl
    cases e
    exact ⟨ρ, σa, h, xs, h', rh, rs, e1, fun ρ1 ys H1 p1 rh1 ry => ⟨by rw [← ry.length]; exact hl, fun p hp => k ρ1 _ _ (p1.trans (Ext.upd (.inl hp))) (rh1.laid hp) (.newTup ry hp)⟩⟩
  · cases e⟩
theorem se_lst {es : List Expr} {f : AF} {pos : Pos} (ha : SA X es f) : SE X (.List es pos) (eLst f) := ⟨PE.of (pe_lst ha.out) fun σ H Q q => by
  obtain ⟨ρ, σa, h, v, h', rh, rs, e, k⟩ := q
  obtain ⟨xs, h1, e1, e⟩ := bind_eq e
  split at e
  · rename_i hl
    cases e
    refine ⟨ρ, σa, h, xs, h1, rh, rs, e1, fun ρ1 ys H1 p1 rh1 ry => ⟨by rw [← ry.length]; exact hl, fun p hp => ?_⟩⟩
    obtain ⟨a, b, c⟩ := newL_ok rh1 ry hp
    exact k _ _ _ (p1.trans a) b c
  · cases e⟩
def dKey : D → Option Key
  | .int i => some (.inl i)
  | .str x => some (.inr x)
  | _ => none
theorem dKey_rel {K : PySem.W.Frag} {ρ : List Addr} {H : Hp} {d : D} {k : Key} {y : V} (e : dKey d = some k) (r : RV K ρ H d y) : y = kV k := by
  cases r <;> simp [dKey] at e <;> subst e <;> rfl
def seqAt (xs : List D) (y : D) (h : AH) : R D := match y with
  | .int i => match atI xs i with | some v => .ok v h | none => .bad
  | _ => .bad
def oIx : Op2 := fun x y h => match x with
  | .tup xs => seqAt xs y h
  | .fz xs => seqAt xs y h
  | .ref n => match h[n]? with
    | some (.lst xs) => seqAt xs y h
    | some (.dct kvs) => match dKey y with
      | some k => match dget kvs k with | some v => .ok v h | none => .bad
      | none => .bad
    | none => .bad
  | _ => .bad
theorem atI_rel {K : PySem.W.Frag} {ρ : List Addr} {H : Hp} {xs : List D} {ys : List V} {i : Int} {v : D} (r : RVs K ρ H xs ys) (e : atI xs i = some v) : ∃ y, atI ys i = some y ∧ RV K ρ H v y := by
  unfold atI at e ⊢
  rw [r.length] at e
  cases q : ixN ys.length i with
  | none => rw [q] at e; cases e
  | some j =>
    rw [q] at e
    exact r.get (show xs[j]? = some v from e)
theorem ix_dict (hu : X.A.units + 1 < cLine) : IxR X (fun x y H Q => ∃ a v, x = .ref a ∧ DGet H a y (some v) ∧ Q v H) := by
  intro value slice pins s σ H x y v u Q I rx ry h hs
  obtain ⟨a, w, rfl, g, q⟩ := h
  cases rx
  exact tail_any (dict_typeIs I g) PySem.F.slot_dict_getitem.lookup (d_getItem hu I g ry fun w' s3 I3 rw' => ⟨w, H, I3, rw', q⟩) hs
def rIxA (K : PySem.W.Frag) : R2 := fun x y H Q => (rIxL K x y H Q ∨ rIxT K x y H Q) ∨ (∃ a v, x = .ref a ∧ DGet H a y (some v) ∧ Q v H)
theorem IxR.or {r r' : R2} (h : IxR X r) (h' : IxR X r') : IxR X (fun x y H Q => r x y H Q ∨ r' x y H Q) := by
  intro value slice pins s σ H x y v u Q I rx ry q hs
  rcases q with q | q
  · exact h value slice pins s σ H x y v u Q I rx ry q hs
  · exact h' value slice pins s σ H x y v u Q I rx ry q hs
theorem ix_any (hu : X.A.units + 1 < cLine) : IxR X (rIxA X.K) := IxR.or (IxR.or ix_list ix_tup) (ix_dict hu)
theorem seqAt_ok {xs : List D} {y : D} {h h' : AH} {v : D} (e : seqAt xs y h = .ok v h') : ∃ i, y = .int i ∧ atI xs i = some v ∧ h = h' := by
  unfold seqAt at e
  split at e
  · rename_i i
    split at e
    · rename_i w q
      cases e
      exact ⟨i, rfl, q, rfl⟩
    · cases e
  · cases e
theorem sp_ix {K : PySem.W.Frag} : OpS K oIx (rIxA K) := by
  intro ρ h H x y x' y' v h' Q rh rx ry e k
  unfold oIx at e
  split at e
  · obtain ⟨i, rfl, q, rfl⟩ := seqAt_ok e
    cases ry
    cases rx with
    | tup hs r =>
      obtain ⟨z, e2, rz⟩ := atI_rel r q
      exact .inl (.inr ⟨_, _, i, z, rfl, rfl, hs, e2, k ρ z H Ext.refl rh rz⟩)
  · obtain ⟨i, rfl, q, rfl⟩ := seqAt_ok e
    cases ry
    cases rx with
    | fz hs r =>
      obtain ⟨z, e2, rz⟩ := atI_rel r q
      exact .inl (.inl ⟨_, _, i, z, rfl, rfl, hs.sq, e2, k ρ z H Ext.refl rh rz⟩)
  · rename_i n
    cases rx with
    | @ref _ a hr =>
      split at e
      · rename_i xs q0
        obtain ⟨ys, hy, r⟩ := rh.ob n _ a q0 hr
        obtain ⟨i, rfl, q, rfl⟩ := seqAt_ok e
        cases ry
        obtain ⟨z, e2, rz⟩ := atI_rel r q
        exact .inl (.inl ⟨_, _, i, z, rfl, rfl, SqL.of hy, e2, k ρ z H Ext.refl rh rz⟩)
      · rename_i kvs q0
        obtain ⟨ys, hy, r⟩ := rh.ob n _ a q0 hr
        split at e
        · rename_i key ek
          split at e
          · rename_i w ew
            cases e
            have := dKey_rel ek ry
            subst this
            rcases r.get (k := key) with ⟨z1, z2⟩ | ⟨z, z', z1, z2, z3⟩
            · rw [ew] at z1; cases z1
            · rw [ew] at z1; cases z1
              refine .inr ⟨a, z', rfl, ?_, k ρ _ H Ext.refl rh z3⟩
              rw [← z2]
              exact DGet.k hy
          · cases e
        · cases e
      · cases e
  · cases e
theorem se_ix {a b : Expr} {f g : EF} {pos : Pos} (hu : X.A.units + 1 < cLine) (ha : SE X a f) (hb : SE X b g) (hs : PlainIx b := by exact fun _ _ => rfl) : SE X (.Subscript a b pos) (eBin oIx f g) :=
  ⟨PE.of (pe_ix (ix_any hu) ha.out hb.out hs) (bin_in sp_ix)⟩
abbrev OF := Fr → AH → R (Option Int)
def tO (K : PySem.W.Frag) (f : OF) : TO := fun σ H Q => ∃ ρ σa h o h', RH K ρ h H ∧ RS K ρ H σa σ ∧ f σa h = .ok o h' ∧ ∀ ρ' H', Ext K ρ H ρ' H' → RH K ρ' h' H' → Q o H'
structure SO (X : Cx) (e : Option Expr) (f : OF) : Prop where
  out : PO X e (tO X.K f)
def oNone : OF := fun _ h => .ok none h
def oSome (f : EF) : OF := fun σ h => (f σ h).bind fun x h1 => match x with | .int i => .ok (some i) h1 | _ => .bad
theorem so_none : SO X none oNone := ⟨fun pins s σ H Q I q => po_none pins s σ H Q I (by
  obtain ⟨ρ, σa, h, v, h', rh, rs, e, k⟩ := q
  cases e
  exact k ρ H Ext.refl rh)⟩
theorem so_some {e : Expr} {f : EF} (ha : SE X e f) : SO X (some e) (oSome f) := ⟨fun pins s σ H Q I q => po_some ha.out pins s σ H Q I (by
  obtain ⟨ρ, σa, h, v, h', rh, rs, e, k⟩ := q
  obtain ⟨x, h1, e1, e⟩ := bind_eq e
  refine ⟨ρ, σa, h, x, h1, rh, rs, e1, fun ρ1 x' H1 p1 rh1 rx => ?_⟩
  split at e
  · cases e
    cases rx
    exact ⟨_, rfl, k ρ1 H1 p1 rh1⟩
  · cases e)⟩
def cutD (xs : List D) (lo hi : Option Int) : List D := (xs.drop (HT.sIx xs.length 0 lo)).take (HT.sIx xs.length xs.length hi - HT.sIx xs.length 0 lo)
theorem cutD_rel {K : PySem.W.Frag} {ρ : List Addr} {H : Hp} {xs : List D} {ys : List V} (r : RVs K ρ H xs ys) (lo hi : Option Int) : RVs K ρ H (cutD xs lo hi) (cutV ys lo hi) := by
  unfold cutD cutV
  rw [r.length]
  exact (r.drop _).take _
def slD (x : D) (lo hi : Option Int) (h : AH) : R D := match x with
  | .fz xs => newL (cutD xs lo hi) h
  | .tup xs => if HT.sIx xs.length 0 lo = 0 ∧ HT.sIx xs.length xs.length hi = xs.length then .bad else .ok (.tup (cutD xs lo hi)) h
  | .ref n => match h[n]? with | some (.lst xs) => newL (cutD xs lo hi) h | _ => .bad
  | _ => .bad
def sNext : SF := fun σ h => .ok (.next σ) h
def sSeq (f g : SF) : SF := fun σ h => (f σ h).bind fun fl h1 => match fl with | .next σ1 => g σ1 h1 | fl => .ok fl h1
theorem ss_nil : SSs X [] sNext := ⟨PSs.of pss_nil fun D σ H q => by
  obtain ⟨ρ, σa, h, v, h', rh, rs, e, k⟩ := q
  cases e
  exact k ρ H Ext.refl rh σ rs⟩
theorem ss_cons {st : Stmt} {rest : List Stmt} {f g : SF} (h1 : SS X st f) (h2 : SSs X rest g) : SSs X (st :: rest) (sSeq f g) := ⟨PSs.of (pss_cons h1.out h2.out) fun D σ H q => by
  obtain ⟨ρ, σa, h, v, h', rh, rs, e, k⟩ := q
  obtain ⟨fl, h1, e1, e⟩ := bind_eq e
  refine ⟨ρ, σa, h, fl, h1, rh, rs, e1, fun ρ1 H1 p1 rh1 => ?_⟩
  cases fl with
  | next σ1 => exact fun σ' rs' => ⟨ρ1, σ1, h1, v, h', rh1, rs', e, fun ρ2 H2 p2 rh2 => k ρ2 H2 (p1.trans p2) rh2⟩
  | brk σ1 => cases e; exact k ρ1 H1 p1 rh1
  | cont σ1 => cases e; exact k ρ1 H1 p1 rh1
  | ret v => cases e; exact k ρ1 H1 p1 rh1⟩
theorem ss_one {st : Stmt} {f : SF} (h1 : SS X st f) : SSs X [st] f := ⟨pss_one h1.out⟩
def sRet (f : EF) : SF := fun σ h => (f σ h).bind fun x h1 => .ok (.ret x) h1
theorem ss_ret {e : Expr} {f : EF} {pos : Pos} (he : SE X e f) : SS X (.Return (some e) pos) (sRet f) := ⟨PS.of (ps_ret he.out) fun D σ H q => by
  obtain ⟨ρ, σa, h, v, h', rh, rs, e, k⟩ := q
  obtain ⟨x, h1, e1, e⟩ := bind_eq e
  cases e
  exact ⟨ρ, σa, h, x, h', rh, rs, e1, fun ρ1 x' H1 p1 rh1 rx => k ρ1 H1 p1 rh1 x' rx⟩⟩
def sIf (c : TF) (f g : SF) : SF := fun σ h => (c σ h).bind fun b h1 => if b = true then f σ h1 else g σ h1
theorem ss_if {c : Expr} {a b : List Stmt} {t : TF} {f g : SF} {pos : Pos} (hc : ST X c t) (ha : SSs X a f) (hb : SSs X b g) : SS X (.If c a b pos) (sIf t f g) := ⟨PS.of (ps_if hc.out ha.out hb.out) fun D σ H q => by
  obtain ⟨ρ, σa, h, v, h', rh, rs, e, k⟩ := q
  obtain ⟨x, h1, e1, e⟩ := bind_eq e
  refine ⟨ρ, σa, h, x, h1, rh, rs, e1, fun ρ1 H1 p1 rh1 => ?_⟩
  cases x with
  | true => exact ⟨ρ1, σa, h1, v, h', rh1, rs.up p1, e, fun ρ2 H2 p2 rh2 => k ρ2 H2 (p1.trans p2) rh2⟩
  | false => exact ⟨ρ1, σa, h1, v, h', rh1, rs.up p1, e, fun ρ2 H2 p2 rh2 => k ρ2 H2 (p1.trans p2) rh2⟩⟩
def gSet (i : Nat) : GF := fun d σ h => .ok (σ.set i (some d)) h
theorem sg_name (i : Nat) {x : Str} {pos : Pos} (hN : X.N.Nodup) (hi : X.N[i]? = some x := by rfl) (hx : Loc X.env.scope x := by first | exact Or.inl rfl | exact Or.inr rfl) (hf : X.fn x = true ∨ X.env.scope.names.lookup x = some .local := by first | exact .inl rfl | exact .inr rfl | assumption) : SG X (.Name x pos) [i] (gSet i) :=
  ⟨PG.of (pg_name hN hi hx hf) fun v σ H Q q => by
  obtain ⟨ρ, σa, h, d, σ', h', rh, rs, rv, e, k⟩ := q
  cases e
  exact k ρ _ H Ext.refl rh (rs.set i rv) ⟨List.length_set, fun j hj => List.getElem?_set_ne (by simp at hj; omega)⟩⟩
abbrev GFs := List D → Fr → AH → R Fr
def tGs (K : PySem.W.Frag) (ws : List Nat) (g : GFs) : TGs := fun vs σ H Q => ∃ ρ σa h ds σa' h', RH K ρ h H ∧ RS K ρ H σa σ ∧ RVs K ρ H ds vs ∧ g ds σa h = .ok σa' h' ∧ ∀ ρ' σ' H', Ext K ρ H ρ' H' → RH K ρ' h' H' → RS K ρ' H' σa' σ' → Out ws σ σ' → Q σ' H'
structure SGs (X : Cx) (ts : List Expr) (ws : List Nat) (g : GFs) : Prop where
  out : PGs X ts (tGs X.K ws g)
def gsNil : GFs := fun ds σ h => match ds with | [] => .ok σ h | _ => .bad
def gsCons (g : GF) (r : GFs) : GFs := fun ds σ h => match ds with | d :: ds => (g d σ h).bind fun σ1 h1 => r ds σ1 h1 | [] => .bad
theorem PGs.of {ts : List Expr} {t t' : TGs} (h : PGs X ts t) (i : ∀ v σ H Q, t' v σ H Q → t v σ H Q) : PGs X ts t' := fun pins s σ H v u Q I r q => h pins s σ H v u Q I r (i v σ H Q q)
theorem sgs_nil : SGs X [] [] gsNil := ⟨PGs.of pgs_nil fun vs σ H Q q => by
  obtain ⟨ρ, σa, h, ds, σ', h', rh, rs, rv, e, k⟩ := q
  cases rv with
  | nil => cases e; exact ⟨rfl, k ρ σ H Ext.refl rh rs ⟨rfl, fun _ _ => rfl⟩⟩
  | cons _ _ => cases e⟩
theorem sgs_cons {t : Expr} {ts : List Expr} {g : GF} {r : GFs} {vs ws : List Nat} (h1 : SG X t vs g) (h2 : SGs X ts ws r) (hs : (assignEach (t :: ts) X.env).map (·.2) = assign t X.env :: (assignEach ts X.env).map (·.2) := by rfl) : SGs X (t :: ts) (vs ++ ws) (gsCons g r) := ⟨PGs.of (pgs_cons h1.out h2.out hs) fun vs σ H Q q => by
  obtain ⟨ρ, σa, h, ds, σ', h', rh, rs, rv, e, k⟩ := q
  cases rv with
  | nil => cases e
  | cons ra rb =>
    obtain ⟨σ1, h1, e1, e⟩ := bind_eq e
    refine ⟨_, _, rfl, ρ, σa, h, _, σ1, h1, rh, rs, ra, e1, fun ρ1 τ1 H1 p1 rh1 rs1 o1 => ⟨ρ1, σ1, h1, _, σ', h', rh1, rs1, rb.up p1, e, fun ρ2 τ2 H2 p2 rh2 rs2 o2 => k ρ2 τ2 H2 (p1.trans p2) rh2 rs2 ⟨o2.len.trans o1.len, fun i hi => by
      simp only [List.mem_append, not_or] at hi
      exact (o2.eq i hi.2).trans (o1.eq i hi.1)⟩⟩⟩⟩
def gTup (n : Nat) (g : GFs) : GF := fun d σ h => match d with | .tup xs => if xs.length = n then g xs σ h else .bad | _ => .bad
def sAsg (f : EF) (g : GF) : SF := fun σ h => (f σ h).bind fun x h1 => (g x σ h1).bind fun σ1 h2 => .ok (.next σ1) h2
theorem ss_asg {tg e : Expr} {f : EF} {g : GF} {vs : List Nat} {pos : Pos} (he : SE X e f) (hg : SG X tg vs g) (hs : swapsWithSole [tg] e pos.line X.env = pure false := by rfl) (hw : swappedStores [tg] e X.env = pure none := by rfl)
    (h1 : (assignEach [tg] X.env).map (·.2) = [assign tg X.env] := by rfl) : SS X (.Assign [tg] e pos) (sAsg f g) := ⟨PS.of (ps_asg he.out hg.out hs hw h1) fun D σ H q => by
  obtain ⟨ρ, σa, h, v, h', rh, rs, e, k⟩ := q
  obtain ⟨x, h1, e1, e⟩ := bind_eq e
  obtain ⟨σ1, h2, e2, e⟩ := bind_eq e
  cases e
  exact ⟨ρ, σa, h, x, h1, rh, rs, e1, fun ρ1 x' H1 p1 rh1 rx => ⟨ρ1, σa, h1, x, σ1, h', rh1, rs.up p1, rx, e2, fun ρ2 τ H2 p2 rh2 rs2 _ => k ρ2 H2 (p1.trans p2) rh2 τ rs2⟩⟩⟩
def sSet (i : Nat) (f : EF) : SF := fun σ h => (f σ h).bind fun x h1 => .ok (.next (σ.set i (some x))) h1
theorem ss_set (i : Nat) {x : Str} {e : Expr} {f : EF} {pos pos' : Pos} (hN : X.N.Nodup) (he : SE X e f) (hi : X.N[i]? = some x := by rfl) (hx : Loc X.env.scope x := by first | exact Or.inl rfl | exact Or.inr rfl)
    (hs : swapsWith e (some (.Name x pos')) pos.line X.env = pure false := by rfl) (hf : X.fn x = true ∨ X.env.scope.names.lookup x = some .local := by first | exact .inl rfl | exact .inr rfl | assumption) : SS X (.Assign [.Name x pos'] e pos) (sSet i f) :=
  ⟨PS.of (ps_set hN hi hx he.out hs hf) fun D σ H q => by
  obtain ⟨ρ, σa, h, v, h', rh, rs, e, k⟩ := q
  obtain ⟨x, h1, e1, e⟩ := bind_eq e
  cases e
  exact ⟨ρ, σa, h, x, h', rh, rs, e1, fun ρ1 x' H1 p1 rh1 rx => k ρ1 H1 p1 rh1 _ ((rs.up p1).set i rx)⟩⟩
def sPar (i j : Nat) (f : AF) : SF := fun σ h => (f σ h).bind fun xs h1 => match xs with | [x, y] => .ok (.next ((σ.set i (some x)).set j (some y))) h1 | _ => .bad
theorem ss_par (i j : Nat) {x y : Str} {a b : Expr} {f : AF} {px py pt pt2 pos : Pos} {kt k2 : Nat} (hc : X.calm = true) (hN : X.N.Nodup) (ha : SA X [a, b] f) (hi : X.N[i]? = some x := by rfl) (hj : X.N[j]? = some y := by rfl) (hij : i ≠ j := by decide)
    (hx : X.env.scope.names.lookup x = some .local := by rfl) (hy : X.env.scope.names.lookup y = some .local := by rfl)
    (hw : swappedStores [.Tuple [.Name x px, .Name y py] kt pt] (.Tuple [a, b] k2 pt2) X.env = pure (some [x, y]) := by rfl)
    (hs : swapsWithSole [.Tuple [.Name x px, .Name y py] kt pt] (.Tuple [a, b] k2 pt2) pos.line X.env = pure false := by rfl) : SS X (.Assign [.Tuple [.Name x px, .Name y py] kt pt] (.Tuple [a, b] k2 pt2) pos) (sPar i j f) :=
  ⟨PS.of (ps_par hc hN hi hj hij hx hy ha.out hw hs) fun D σ H q => by
  obtain ⟨ρ, σa, h, v, h', rh, rs, e, k⟩ := q
  obtain ⟨xs, h1, e1, e⟩ := bind_eq e
  refine ⟨ρ, σa, h, xs, h1, rh, rs, e1, fun ρ1 ys H1 p1 rh1 rx => ?_⟩
  split at e
  · cases e
    cases rx with
    | cons ra rb =>
      cases rb with
      | cons rb rc =>
        cases rc
        exact ⟨_, _, rfl, k ρ1 H1 p1 rh1 _ (((rs.up p1).set i ra).set j rb)⟩
  · cases e⟩
def setD (o i v : D) (h : AH) : R Unit := match o with
  | .ref n => match h[n]? with
    | some (.lst xs) => match i with
      | .int k => match ixN xs.length k with | some j => .ok () (h.set n (.lst (xs.set j v))) | none => .bad
      | _ => .bad
    | some (.dct kvs) => match dKey i with
      | some k => if kvs.length < sizeLine then .ok () (h.set n (.dct (dput kvs k v))) else .bad
      | none => .bad
    | none => .bad
  | _ => .bad
def rSetA : TSet := fun o i v H Q => rSetL o i v H Q ∨ ∃ a H', o = .ref a ∧ DPut H a i v H' ∧ Q H'
theorem set_any (hu : X.A.units + 1 < cLine) : PSet X rSetA := by
  intro pins s σ H o i v ov iv u Q I ro ri rv h
  rcases h with h | ⟨a, H', rfl, g, q⟩
  · exact set_list pins s σ H o i v ov iv u Q I ro ri rv h
  · cases ro
    exact d_setItem hu I g ri rv fun s4 I4 => ⟨H', I4, q⟩
theorem setD_ok {K : PySem.W.Frag} {ρ : List Addr} {h h' : AH} {H : Hp} {o i v : D} {o' i' v' : V} {Q : Hp → Prop} (rh : RH K ρ h H) (ro : RV K ρ H o o') (ri : RV K ρ H i i') (rv : RV K ρ H v v') (e : setD o i v h = .ok () h')
    (k : ∀ H', Ext K ρ H ρ H' → RH K ρ h' H' → Q H') : rSetA o' i' v' H Q := by
  unfold setD at e
  split at e
  · rename_i n
    cases ro with
    | @ref _ a hr =>
      have ext : ∀ u, Ext K ρ H ρ (upd H a u) := fun u => Ext.upd (.inr (rh.mut hr))
      split at e
      · rename_i xs q0
        obtain ⟨ys, hy, r⟩ := rh.ob n _ a q0 hr
        split at e
        · rename_i z
          split at e
          · rename_i j ej
            cases e
            cases ri
            refine .inl ⟨a, ys, z, j, rfl, rfl, hy, by rw [← r.length]; exact ej, k _ (ext _) (rh.set hr ⟨_, upd_same, (r.set rv j).up (ext _)⟩)⟩
          · cases e
        · cases e
      · rename_i kvs q0
        obtain ⟨ys, hy, r⟩ := rh.ob n _ a q0 hr
        split at e
        · rename_i key ek
          split at e
          · rename_i hl
            cases e
            have := dKey_rel ek ri
            subst this
            refine .inr ⟨a, _, rfl, DPut.k hy (by rw [← r.length]; exact hl), k _ (ext _) (rh.set hr ⟨_, upd_same, (r.put rv).up (ext _)⟩)⟩
          · cases e
        · cases e
      · cases e
  · cases e
def sPut (fo fi fv : EF) : SF := fun σ h => (fv σ h).bind fun v h1 => (fo σ h1).bind fun o h2 => (fi σ h2).bind fun i h3 => (setD o i v h3).bind fun _ h4 => .ok (.next σ) h4
theorem ss_put {o i e : Expr} {fo fi fv : EF} {pos pos' : Pos} (hu : X.A.units + 1 < cLine) (ho : SE X o fo) (hi : SE X i fi) (he : SE X e fv)
    (ha : ∀ v, assign (.Subscript o i pos') X.env v = (do
      let ov ← holding [v] (eval o X.env)
      let iv ← holding [v, ov] (eval i X.env)
      standAt pos'
      holding [v, ov, iv] (setItem ov iv v)
      release [v, ov, iv] []) := by intro _; rfl)
    (hs : swapsWithSole [.Subscript o i pos'] e pos.line X.env = pure false := by rfl) (hw : swappedStores [.Subscript o i pos'] e X.env = pure none := by rfl)
    (h1 : (assignEach [.Subscript o i pos'] X.env).map (·.2) = [assign (.Subscript o i pos') X.env] := by rfl) : SS X (.Assign [.Subscript o i pos'] e pos) (sPut fo fi fv) :=
  ⟨PS.of (ps_asg he.out (pg_sub ho.out hi.out (set_any hu) ha) hs hw h1) fun D σ H q => by
  obtain ⟨ρ, σa, h, v, h', rh, rs, e, k⟩ := q
  obtain ⟨x, h1, e1, e⟩ := bind_eq e
  obtain ⟨y, h2, e2, e⟩ := bind_eq e
  obtain ⟨z, h3, e3, e⟩ := bind_eq e
  obtain ⟨_, h4, e4, e⟩ := bind_eq e
  cases e
  exact ⟨ρ, σa, h, x, h1, rh, rs, e1, fun ρ1 x' H1 p1 rh1 rx => ⟨ρ1, σa, h1, y, h2, rh1, rs.up p1, e2, fun ρ2 y' H2 p2 rh2 ry => ⟨ρ2, σa, h2, z, h3, rh2, rs.up (p1.trans p2), e3, fun ρ3 z' H3 p3 rh3 rz =>
    setD_ok rh3 (ry.up p3) rz (rx.up (p2.trans p3)) e4 fun H4 p4 rh4 => k ρ3 H4 (p1.trans (p2.trans (p3.trans p4))) rh4 σ (rs.up (p1.trans (p2.trans (p3.trans p4))))⟩⟩⟩⟩
end
end EV
set_option Elab.async false
set_option linter.all false
set_option autoImplicit false
set_option maxRecDepth 100000
namespace EV
open PySem PySem.Spec PyProof.Rows L2
structure Src where
  items : List D
  chk : AH → Prop
abbrev IF := Fr → AH → R Src
def ItOk (K : PySem.W.Frag) (ρ0 : List Addr) (H0 : Hp) (J : It) (s : Src) : Prop := ∀ (ρ : List Addr) (h : AH) (H : Hp) (i : Nat), Ext K ρ0 H0 ρ H → RH K ρ h H → s.chk h →
  (s.items.length ≤ i → J.stop i H) ∧ ∀ x, s.items[i]? = some x → J.go i H ∧ ∀ y H', J.yld i H y H' → Ext K ρ H ρ H' ∧ RH K ρ h H' ∧ RV K ρ H' x y
def tI (K : PySem.W.Frag) (f : IF) : TI := fun σ H R => ∃ ρ σa h s h', RH K ρ h H ∧ RS K ρ H σa σ ∧ f σa h = .ok s h' ∧ ∀ ρ' J H', Ext K ρ H ρ' H' → RH K ρ' h' H' → ItOk K ρ' H' J s → R J H'
structure SI (X : Cx) (tg iter : Expr) (f : IF) : Prop where
  out : PI X tg iter (tI X.K f)
section
variable {X : Cx} {tg : Expr}
theorem PI.of {it : Expr} {t t' : TI} (h : PI X tg it t) (i : ∀ σ H R, t' σ H R → t σ H R) : PI X tg it t' := fun pins s σ H R I q => h pins s σ H R I (i σ H R q)
def still (xs : List D) : Src := ⟨xs, fun _ => True⟩
def held (n : Nat) (xs : List D) : Src := ⟨xs, fun h => h[n]? = some (.lst xs)⟩
def srcD (x : D) (h : AH) : R Src := match x with
  | .tup xs => .ok (still xs) h
  | .fz xs => .ok (still xs) h
  | .ref n => match h[n]? with | some (.lst xs) => .ok (held n xs) h | _ => .bad
  | _ => .bad
def iSeq (f : EF) : IF := fun σ h => (f σ h).bind srcD
def iAny (K : PySem.W.Frag) (tl : TE) : TI := fun σ H R => tl σ H fun x H1 => (∃ a, x = .ref a ∧ (∃ xs, SqL K H1 a xs) ∧ R (Itl K a) H1) ∨ ∃ a, x = .ref a ∧ (∃ xs, SqT K H1 a xs) ∧ R (Itt K a) H1
theorem pi_any {l : Expr} {tl : TE} (hl : PE X l tl) : PI X tg l (iAny X.K tl) := by
  intro pins s σ H R I h
  refine thn (hl pins s σ H _ I h) fun v s1 ⟨x, H1, I1, r1, q1⟩ => ?_
  rcases q1 with ⟨a, e, ⟨xs, hq⟩, q⟩ | ⟨a, e, ⟨xs, hq⟩, q⟩
  · subst e
    cases r1
    obtain ⟨its, rv, p, hz⟩ := I1.list hq
    refine wpAny_pyIter_list p.isList ?_
    refine ⟨s1.heap.objs.size, [s1.heap.objs.size], _, _, H1, rfl, I1.kept (t' := s1.toks) fun b o e => Heap.get?_push_of_some _ e, turn_list a _, ⟨_, Heap.get?_push_size _ rfl, rfl, rfl⟩, fun b hb => ?_, q⟩
    have e : b = s1.heap.objs.size := by simpa using hb
    subst e
    exact I1.fpOk (Nat.le_refl _) (I1.hok.fresh (Nat.le_refl _))
  · subst e
    cases r1
    obtain ⟨its, rv, p, hz⟩ := I1.tuple hq
    refine wpAny_pyIter_tuple (show s1.heap.IsTuple a its.toArray from p) ?_
    refine ⟨s1.heap.objs.size, [s1.heap.objs.size], _, _, H1, rfl, I1.kept (t' := s1.toks) fun b o e => Heap.get?_push_of_some _ e, turn_tuple a _, ⟨_, Heap.get?_push_size _ rfl, rfl, rfl⟩, fun b hb => ?_, q⟩
    have e : b = s1.heap.objs.size := by simpa using hb
    subst e
    exact I1.fpOk (Nat.le_refl _) (I1.hok.fresh (Nat.le_refl _))
theorem it_list {K : PySem.W.Frag} {ρ0 : List Addr} {H0 : Hp} {a : Addr} {s : Src} (h : ∀ (ρ : List Addr) (h : AH) (H : Hp), Ext K ρ0 H0 ρ H → RH K ρ h H → s.chk h → ∃ ys, SqL K H a ys ∧ RVs K ρ H s.items ys) : ItOk K ρ0 H0 (Itl K a) s := by
  intro ρ hh H i ext rh c
  obtain ⟨ys, hy, r⟩ := h ρ hh H ext rh c
  refine ⟨fun hl => ⟨ys, hy, by rw [← r.length]; exact hl⟩, fun x hx => ?_⟩
  obtain ⟨y, e, rv⟩ := r.get hx
  refine ⟨⟨ys, y, hy, e⟩, fun z H' ⟨eH, q⟩ => ?_⟩
  subst eH
  have e2 := q ys hy
  rw [e] at e2; cases e2
  exact ⟨Ext.refl, rh, rv⟩
theorem it_tup {K : PySem.W.Frag} {ρ0 : List Addr} {H0 : Hp} {a : Addr} {s : Src} (h : ∀ (ρ : List Addr) (h : AH) (H : Hp), Ext K ρ0 H0 ρ H → RH K ρ h H → s.chk h → ∃ ys, SqT K H a ys ∧ RVs K ρ H s.items ys) : ItOk K ρ0 H0 (Itt K a) s := by
  intro ρ hh H i ext rh c
  obtain ⟨ys, hy, r⟩ := h ρ hh H ext rh c
  refine ⟨fun hl => ⟨ys, hy, by rw [← r.length]; exact hl⟩, fun x hx => ?_⟩
  obtain ⟨y, e, rv⟩ := r.get hx
  refine ⟨⟨ys, y, hy, e⟩, fun z H' ⟨eH, q⟩ => ?_⟩
  subst eH
  have e2 := q ys hy
  rw [e] at e2; cases e2
  exact ⟨Ext.refl, rh, rv⟩
theorem si_seq {l : Expr} {f : EF} (hl : SE X l f) : SI X tg l (iSeq f) := ⟨PI.of (pi_any hl.out) fun σ H R q => by
  obtain ⟨ρ, σa, h, s, h', rh, rs, e, k⟩ := q
  obtain ⟨x, h1, e1, e⟩ := bind_eq e
  refine ⟨ρ, σa, h, x, h1, rh, rs, e1, fun ρ1 x' H1 p1 rh1 rx => ?_⟩
  unfold srcD at e
  split at e
  · cases e
    cases rx with
    | tup hs r => exact .inr ⟨_, rfl, ⟨_, hs⟩, k ρ1 _ H1 p1 rh1 (it_tup fun ρ2 h2 H2 p2 rh2 _ => ⟨_, p2.tup _ _ hs, r.up p2⟩)⟩
  · cases e
    cases rx with
    | fz hs r => exact .inl ⟨_, rfl, ⟨_, hs.sq⟩, k ρ1 _ H1 p1 rh1 (it_list fun ρ2 h2 H2 p2 rh2 _ => ⟨_, (p2.fz _ _ hs).sq, r.up p2⟩)⟩
  · rename_i n
    cases rx with
    | @ref _ a hr =>
      split at e
      · rename_i xs q0
        cases e
        obtain ⟨ys, hy, r⟩ := rh1.ob _ _ a q0 hr
        refine .inl ⟨a, rfl, ⟨ys, SqL.of hy⟩, k ρ1 _ H1 p1 rh1 (it_list fun ρ2 h2 H2 p2 rh2 c => ?_)⟩
        obtain ⟨zs, hz, rz⟩ := rh2.ob _ _ a c (p2.pre _ _ hr)
        exact ⟨zs, SqL.of hz, rz⟩
      · cases e
  · cases e⟩
def rangeD (lo : Int) (n : Nat) : List D := (List.range n).map fun (i : Nat) => D.int (lo + (i : Int))
def iR1 (f : AF) : IF := fun σ h => (f σ h).bind fun xs h1 => match xs with | [.int j] => if -(2 ^ 62) ≤ j ∧ j < 2 ^ 62 then .ok (still (rangeD 0 j.toNat)) h1 else .bad | _ => .bad
theorem it_range {K : PySem.W.Frag} {ρ0 : List Addr} {H0 : Hp} {lo : Int} {n : Nat} : ItOk K ρ0 H0 (Itr lo n) (still (rangeD lo n)) := by
  intro ρ h H i ext rh c
  have hl : (rangeD lo n).length = n := by simp [rangeD]
  refine ⟨fun q => by show n ≤ i; rw [← hl]; exact q, fun x hx => ?_⟩
  have hi : i < n := by rw [← hl]; exact (List.getElem?_eq_some_iff.mp hx).1
  refine ⟨hi, fun y H' ⟨eH, ey⟩ => ?_⟩
  subst eH ey
  have : x = .int (lo + i) := by
    have hx : (rangeD lo n)[i]? = some x := hx
    simp [rangeD, hi] at hx
    exact hx.symm
  subst this
  exact ⟨Ext.refl, rh, .int _⟩
theorem si_r1 {a : Expr} {f : AF} {p pos : Pos} (hm : X.mg "range" = none) (ha : SA X [a] f) (hg : Gl X "range" := by rfl) (hs : starEach [a] X.env = [(false, eval a X.env)] := by rfl) : SI X tg (.Call (.Name "range" p) [a] [] pos) (iR1 f) :=
  ⟨PI.of (pi_range1 hg hm ha.out hs) fun σ H R q => by
  obtain ⟨ρ, σa, h, s, h', rh, rs, e, k⟩ := q
  obtain ⟨xs, h1, e1, e⟩ := bind_eq e
  refine ⟨ρ, σa, h, xs, h1, rh, rs, e1, fun ρ1 ys H1 p1 rh1 rx => ?_⟩
  split at e
  · split at e
    · rename_i j c
      cases e
      cases rx with
      | cons ra rb =>
        cases rb
        cases ra
        exact ⟨j, rfl, c.1, c.2, k ρ1 _ H1 p1 rh1 it_range⟩
    · cases e
  · cases e⟩
open Classical in
noncomputable def forD (s : Src) (g : GF) (b : SF) : List D → Fr → AH → R Fl
  | [], σ, h => if s.chk h then .ok (.next σ) h else .bad
  | x :: xs, σ, h => if s.chk h then (g x σ h).bind fun σ1 h1 => (b σ1 h1).bind fun fl h2 => match fl with
      | .next σ2 => forD s g b xs σ2 h2
      | .cont σ2 => forD s g b xs σ2 h2
      | .brk σ2 => .ok (.next σ2) h2
      | .ret v => .ok (.ret v) h2
    else .bad
noncomputable def sFor (f : IF) (g : GF) (b : SF) : SF := fun σ h => (f σ h).bind fun s h1 => forD s g b s.items σ h1
theorem ss_for {iter : Expr} {body : List Stmt} {f : IF} {vs : List Nat} {g : GF} {b : SF} {pos : Pos} (hc : X.calm = true) (hi : SI X tg iter f) (hg : SG X tg vs g) (hb : SSs X body b) (hp : PassesOwn (model X.prog X.w) X.A X.env X.xe := by exact PassesOwn.never)
    (hs : ∀ x, foldedSetIterable iter X.env x = pure x := by intro _; rfl) : SS X (.For tg iter body [] pos) (sFor f g b) := ⟨PS.of (ps_for hp hc hi.out hg.out hb.out hs) fun D σ H q => by
  obtain ⟨ρ, σa, h, fl, h', rh, rs, e, k⟩ := q
  obtain ⟨s, h1, e1, e⟩ := bind_eq e
  refine ⟨ρ, σa, h, s, h1, rh, rs, e1, fun ρ1 J H1 p1 rh1 ok => ?_⟩
  refine ⟨fun i m τ H2 => ∃ ρ2 σ2 h2, Ext X.K ρ1 H1 ρ2 H2 ∧ RH X.K ρ2 h2 H2 ∧ RS X.K ρ2 H2 σ2 τ ∧ i ≤ s.items.length ∧ m = s.items.length - i ∧ forD s g b (s.items.drop i) σ2 h2 = .ok fl h', ⟨_, ρ1, σa, h1, Ext.refl, rh1, rs.up p1, Nat.zero_le _, rfl, by simpa using e⟩, ?_⟩
  rintro i m τ H2 ⟨ρ2, σ2, h2, p2, rh2, rs2, hi, rfl, e2⟩
  by_cases hlt : i < s.items.length
  · right
    have hx : s.items[i]? = some s.items[i] := List.getElem?_eq_getElem hlt
    rw [List.drop_eq_getElem_cons hlt] at e2
    unfold forD at e2
    split at e2
    · rename_i chk
      obtain ⟨_, w⟩ := ok ρ2 h2 H2 i p2 rh2 chk
      obtain ⟨go, yl⟩ := w _ hx
      obtain ⟨σ3, h3, e3, e2⟩ := bind_eq e2
      obtain ⟨f4, h4, e4, e2⟩ := bind_eq e2
      refine ⟨go, _, fun σ' H' n => n, fun y H3 yd => ?_⟩
      obtain ⟨p3, rh3, rv⟩ := yl y H3 yd
      refine ⟨ρ2, σ2, h2, _, σ3, h3, rh3, rs2.up p3, rv, e3, fun ρ4 τ4 H4 p4 rh4 rs4 _ => ⟨ρ4, σ3, h3, f4, h4, rh4, rs4, e4, fun ρ5 H5 p5 rh5 => ?_⟩⟩
      have pp := p2.trans (p3.trans (p4.trans p5))
      cases f4 with
      | next σ5 => exact fun τ5 rs5 => ⟨_, by omega, ρ5, σ5, h4, pp, rh5, rs5, hlt, rfl, e2⟩
      | cont σ5 => exact fun τ5 rs5 => ⟨_, by omega, ρ5, σ5, h4, pp, rh5, rs5, hlt, rfl, e2⟩
      | brk σ5 => cases e2; exact k ρ5 H5 (p1.trans pp) rh5
      | ret v => cases e2; exact k ρ5 H5 (p1.trans pp) rh5
    · cases e2
  · left
    have hi' : i = s.items.length := by omega
    subst hi'
    rw [List.drop_length] at e2
    unfold forD at e2
    split at e2
    · rename_i chk
      cases e2
      exact ⟨(ok ρ2 _ H2 _ p2 rh2 chk).1 (Nat.le_refl _), k ρ2 H2 (p1.trans p2) rh2 τ rs2⟩
    · cases e2⟩
def whileD (c : TF) (b : SF) : Nat → Fr → AH → R Fl
  | 0, _, _ => .bad
  | n + 1, σ, h => (c σ h).bind fun t h1 => if t = true then (b σ h1).bind fun fl h2 => match fl with
      | .next σ2 => whileD c b n σ2 h2
      | .cont σ2 => whileD c b n σ2 h2
      | .brk σ2 => .ok (.next σ2) h2
      | .ret v => .ok (.ret v) h2
    else .ok (.next σ) h1
def sWhile (m : Fr → Nat) (c : TF) (b : SF) : SF := fun σ h => whileD c b (m σ) σ h
theorem ss_while (m : Fr → Nat) {c : Expr} {body : List Stmt} {t : TF} {b : SF} {pos : Pos} (hc : ST X c t) (hb : SSs X body b) (hp : PassesOwn (model X.prog X.w) X.A X.env X.xe := by exact PassesOwn.never) : SS X (.While c body [] pos) (sWhile m t b) :=
  ⟨PS.of (ps_while hp hc.out hb.out) fun D σ H q => by
  obtain ⟨ρ, σa, h, fl, h', rh, rs, e, k⟩ := q
  refine ⟨fun n τ H2 => ∃ ρ2 σ2 h2, Ext X.K ρ H ρ2 H2 ∧ RH X.K ρ2 h2 H2 ∧ RS X.K ρ2 H2 σ2 τ ∧ whileD t b n σ2 h2 = .ok fl h', ⟨m σa, ρ, σa, h, Ext.refl, rh, rs, e⟩, ?_⟩
  rintro n τ H2 ⟨ρ2, σ2, h2, p2, rh2, rs2, e2⟩
  cases n with
  | zero => cases e2
  | succ n =>
    unfold whileD at e2
    obtain ⟨x, h3, e3, e2⟩ := bind_eq e2
    refine ⟨ρ2, σ2, h2, x, h3, rh2, rs2, e3, fun ρ3 H3 p3 rh3 => ?_⟩
    cases x with
    | false =>
      rw [if_neg Bool.false_ne_true] at e2 ⊢
      cases e2
      exact k ρ3 H3 (p2.trans p3) rh3 τ (rs2.up p3)
    | true =>
      rw [if_pos rfl] at e2 ⊢
      obtain ⟨f4, h4, e4, e2⟩ := bind_eq e2
      refine ⟨_, fun σ' H' n => n, ρ3, σ2, h3, f4, h4, rh3, rs2.up p3, e4, fun ρ4 H4 p4 rh4 => ?_⟩
      have pp := p2.trans (p3.trans p4)
      cases f4 with
      | next σ5 => exact fun τ5 rs5 => ⟨n, Nat.lt_succ_self _, ρ4, σ5, h4, pp, rh4, rs5, e2⟩
      | cont σ5 => exact fun τ5 rs5 => ⟨n, Nat.lt_succ_self _, ρ4, σ5, h4, pp, rh4, rs5, e2⟩
      | brk σ5 => cases e2; exact k ρ4 H4 pp rh4
      | ret v => cases e2; exact k ρ4 H4 pp rh4⟩
structure STs (X : Cx) (ifs : List Expr) (f : TF) : Prop where
  out : PTs X ifs (tT X.K f)
def tTrue : TF := fun _ h => .ok true h
theorem sts_nil : STs X [] tTrue := ⟨fun pins s σ H Q I q => pts_nil pins s σ H Q I (by
  obtain ⟨ρ, σa, h, v, h', rh, rs, e, k⟩ := q
  cases e
  exact k ρ H Ext.refl rh)⟩
theorem sts_one {c : Expr} {f : TF} (h : ST X c f) : STs X [c] f := ⟨pts_one h.out⟩
open Classical in
noncomputable def lcD (s : Src) (vs : List Nat) (g : GF) (t : TF) (e : EF) (n : Nat) (σ : Fr) : List D → AH → R Unit
  | [], h => if s.chk h then .ok () h else .bad
  | x :: xs, h => if s.chk h then (g x (wipeD σ vs) h).bind fun σ1 h1 => (t σ1 h1).bind fun b h2 => if b = true then (e σ1 h2).bind fun y h3 => match h3[n]? with
        | some (.lst acc) => if acc.length < sizeLine then lcD s vs g t e n σ xs (h3.set n (.lst (acc ++ [y]))) else .bad
        | _ => .bad
      else lcD s vs g t e n σ xs h2
    else .bad
noncomputable def eLC (f : IF) (vs : List Nat) (g : GF) (t : TF) (e : EF) : EF := fun σ h => (f σ h).bind fun s h1 => (lcD s vs g t e h1.length σ s.items (h1 ++ [.lst []])).bind fun _ h2 => .ok (.ref h1.length) h2
theorem wipe_out {vs : List Nat} {σ σ' : L2.St} (o : Out vs (L2.wipe σ vs) σ') : L2.wipe σ' vs = L2.wipe σ vs := by
  have key : ∀ (τ : L2.St) (ws : List Nat) (i : Nat), (L2.wipe τ ws)[i]? = if i ∈ ws ∧ i < τ.length then some none else τ[i]? := by
    intro τ ws
    induction ws with
    | nil => intro i; simp [L2.wipe]
    | cons w ws ih =>
      intro i
      unfold L2.wipe
      by_cases hw : w = i
      · subst hw
        by_cases hl : w < τ.length
        · rw [List.getElem?_set_self (by rw [wipe_length]; exact hl), if_pos ⟨by simp, hl⟩]
        · rw [List.getElem?_eq_none (by rw [List.length_set, wipe_length]; omega), if_neg (by simp [hl]), List.getElem?_eq_none (by omega)]
      · rw [List.getElem?_set_ne hw, ih i]
        have : (i ∈ w :: ws) ↔ i ∈ ws := by simp [Ne.symm hw]
        simp only [this]
  have hl : σ'.length = σ.length := by rw [o.len, wipe_length]
  apply List.ext_getElem?
  intro i
  rw [key σ' vs i, key σ vs i, hl]
  by_cases hi : i ∈ vs
  · by_cases hl2 : i < σ.length
    · rw [if_pos ⟨hi, hl2⟩, if_pos ⟨hi, hl2⟩]
    · rw [if_neg (by simp [hl2]), if_neg (by simp [hl2]), List.getElem?_eq_none (by omega), List.getElem?_eq_none (by omega)]
  · rw [if_neg (by simp [hi]), if_neg (by simp [hi]), o.eq i hi, key σ vs i, if_neg (by simp [hi])]
theorem lc_in {K : PySem.W.Frag} {f : IF} {vs : List Nat} {g : GF} {t : TF} {e : EF} : ∀ σ H Q, tE K (eLC f vs g t e) σ H Q → tLc (tI K f) (tG K vs g) (tT K t) (tE K e) vs σ H Q := fun σ H Q q => by
  obtain ⟨ρ, σa, h, v, h', rh, rs, e0, k⟩ := q
  obtain ⟨s, h1, e1, e0⟩ := bind_eq e0
  obtain ⟨_, h2, e2, e0⟩ := bind_eq e0
  cases e0
  refine ⟨ρ, σa, h, s, h1, rh, rs, e1, fun ρ1 J H1 p1 rh1 ok A hA => ?_⟩
  obtain ⟨pn, rhn, rvn⟩ := newL_ok rh1 (xs := []) (ys := []) .nil hA
  refine ⟨fun i m H2 => ∃ ρ2 h2, Ext K (ρ1 ++ [A]) (upd H1 A (.lst [])) ρ2 H2 ∧ RH K ρ2 h2 H2 ∧ i ≤ s.items.length ∧ m = s.items.length - i ∧ lcD s vs g t e h1.length σa (s.items.drop i) h2 = .ok () h', ⟨_, _, _, Ext.refl, rhn, Nat.zero_le _, rfl, by simpa using e2⟩, ?_⟩
  rintro i m H2 ⟨ρ2, h2, p2, rh2, hi, rfl, e3⟩
  have pp := pn.trans p2
  have rsw : RS K ρ2 H2 (wipeD σa vs) (L2.wipe σ vs) := (rs.up (p1.trans pp)).wipe vs
  by_cases hlt : i < s.items.length
  · right
    have hx : s.items[i]? = some s.items[i] := List.getElem?_eq_getElem hlt
    rw [List.drop_eq_getElem_cons hlt] at e3
    unfold lcD at e3
    split at e3
    · rename_i chk
      obtain ⟨_, w⟩ := ok ρ2 h2 H2 i pp rh2 chk
      obtain ⟨go, yl⟩ := w _ hx
      obtain ⟨σ3, h3, e4, e3⟩ := bind_eq e3
      obtain ⟨b, h4, e5, e3⟩ := bind_eq e3
      refine ⟨go, _, fun H' n => n, fun y H3 yd => ?_⟩
      obtain ⟨p3, rh3, rv⟩ := yl y H3 yd
      refine ⟨ρ2, _, h2, _, σ3, h3, rh3, rsw.up p3, rv, e4, fun ρ4 τ4 H4 p4 rh4 rs4 o4 => ⟨wipe_out o4, ρ4, σ3, h3, b, h4, rh4, rs4, e5, fun ρ5 H5 p5 rh5 => ?_⟩⟩
      have q5 := p2.trans (p3.trans (p4.trans p5))
      cases b with
      | false =>
        rw [if_neg Bool.false_ne_true] at e3
        refine iteF ?_
        exact ⟨_, by omega, ρ5, h4, q5, rh5, hlt, rfl, e3⟩
      | true =>
        rw [if_pos rfl] at e3
        refine iteT ?_
        obtain ⟨z, h6, e6, e3⟩ := bind_eq e3
        refine ⟨ρ5, σ3, h4, z, h6, rh5, rs4.up p5, e6, fun ρ6 z' H6 p6 rh6 rz => ?_⟩
        have q6 := q5.trans p6
        split at e3
        · rename_i acc ea
          split at e3
          · rename_i hl
            cases rvn with
            | ref hr =>
              have hr6 := q6.pre _ _ hr
              obtain ⟨ys, hy, ry⟩ := rh6.ob _ _ A ea hr6
              refine ⟨ys, hy, by rw [← ry.length]; exact hl, _, by omega, ρ6, _, q6.trans (Ext.upd (.inr (rh6.mut hr6))), rh6.set (o := .lst (acc ++ [z])) hr6 ⟨_, upd_same, ?_⟩, hlt, rfl, e3⟩
              exact (ry.app (.cons rz .nil)).up (Ext.upd (.inr (rh6.mut hr6)))
          · cases e3
        · cases e3
    · cases e3
  · left
    have hi' : i = s.items.length := by omega
    subst hi'
    rw [List.drop_length] at e3
    unfold lcD at e3
    split at e3
    · rename_i chk
      cases e3
      exact ⟨(ok ρ2 h' H2 _ pp rh2 chk).1 (Nat.le_refl _), k ρ2 _ H2 (p1.trans pp) rh2 (rvn.up p2)⟩
    · cases e3
theorem se_lc {elt iter : Expr} {ifs : List Expr} {scope : Scope} {pos : Pos} {f : IF} {g : GF} {t : TF} {e : EF} (own : List (Str × Nat)) (hc : X.calm = true) (hN : X.N.Nodup) (hi : SI X tg iter f) (ok : BlkOk X.N X.env.scope scope own)
    (hg : ∀ (s : Shared) (H : Hp) (C : Addr) (cl : List (Str × Addr)) (fp : List Addr), SG (X.blk s H scope (compEnvC scope cl C X.env) fp) tg (own.map (·.2)) g) (ht : ∀ (s : Shared) (H : Hp) (C : Addr) (cl : List (Str × Addr)) (fp : List Addr), STs (X.blk s H scope (compEnvC scope cl C X.env) fp) ifs t)
    (he : ∀ (s : Shared) (H : Hp) (C : Addr) (cl : List (Str × Addr)) (fp : List Addr), SE (X.blk s H scope (compEnvC scope cl C X.env) fp) elt e) (hs : ∀ x, foldedSetIterable iter X.env x = pure x := by intro _; rfl) :
    SE X (.ListComp elt [⟨tg, iter, ifs, 0⟩] scope pos) (eLC f (own.map (·.2)) g t e) :=
  ⟨PE.of (pe_lc hc hN hi.out ok (fun s H C cl fp => (hg s H C cl fp).out) (fun s H C cl fp => (ht s H C cl fp).out) (fun s H C cl fp => (he s H C cl fp).out) hs) lc_in⟩
end
end EV
set_option Elab.async false
set_option linter.all false
set_option autoImplicit false
set_option maxRecDepth 100000
namespace EV
open PySem PySem.Spec PyProof.Rows L2
mutual
def toP (h : AH) : Nat → D → Option PyData
  | 0, _ => none
  | n + 1, d => match d with
    | .non => some .none
    | .bl b => some (.bool b)
    | .int i => some (.int i)
    | .str x => some (.str x)
    | .tup xs => (toPs h n xs).map .tuple
    | .fz xs => (toPs h n xs).map .list
    | .ref m => match h[m]? with | some (.lst xs) => (toPs h n xs).map .list | _ => none
def toPs (h : AH) : Nat → List D → Option (List PyData)
  | 0, _ => none
  | _ + 1, [] => some []
  | n + 1, x :: xs => match toP h (n + 1) x, toPs h (n + 1) xs with | some d, some ds => some (d :: ds) | _, _ => none
end
mutual
theorem toP_dp {K : PySem.W.Frag} {ρ : List Addr} {h : AH} {H : Hp} (rh : RH K ρ h H) : ∀ (n : Nat) (d : D) (v : V) (p : PyData), toP h n d = some p → RV K ρ H d v → Dp K H v p
  | 0, _, _, _, e, _ => by simp [toP] at e
  | n + 1, .non, _, _, e, r => by simp [toP] at e; subst e; cases r; exact .non
  | n + 1, .bl b, _, _, e, r => by simp [toP] at e; subst e; cases r; exact .bl b
  | n + 1, .int i, _, _, e, r => by simp [toP] at e; subst e; cases r; exact .int i
  | n + 1, .str x, _, _, e, r => by simp [toP] at e; subst e; cases r; exact .str x
  | n + 1, .tup xs, _, _, e, r => by
    simp only [toP, Option.map_eq_some_iff] at e
    obtain ⟨ds, e, rfl⟩ := e
    cases r with
    | tup hs r => exact .tup hs (toPs_dp rh n xs _ ds e r)
  | n + 1, .fz xs, _, _, e, r => by
    simp only [toP, Option.map_eq_some_iff] at e
    obtain ⟨ds, e, rfl⟩ := e
    cases r with
    | fz hs r => exact .lst hs.sq (toPs_dp rh n xs _ ds e r)
  | n + 1, .ref m, _, _, e, r => by
    simp only [toP] at e
    split at e
    · rename_i xs q
      simp only [Option.map_eq_some_iff] at e
      obtain ⟨ds, e, rfl⟩ := e
      cases r with
      | ref hr =>
        obtain ⟨ys, hy, ry⟩ := rh.ob _ _ _ q hr
        exact .lst (SqL.of hy) (toPs_dp rh n xs _ ds e ry)
    · cases e
theorem toPs_dp {K : PySem.W.Frag} {ρ : List Addr} {h : AH} {H : Hp} (rh : RH K ρ h H) : ∀ (n : Nat) (ds : List D) (vs : List V) (ps : List PyData), toPs h n ds = some ps → RVs K ρ H ds vs → DpAll K H vs ps
  | 0, _, _, _, e, _ => by simp [toPs] at e
  | n + 1, [], _, _, e, r => by simp [toPs] at e; subst e; cases r; exact .nil
  | n + 1, x :: xs, _, _, e, r => by
    simp only [toPs] at e
    split at e
    · rename_i d ds e1 e2
      cases e
      cases r with
      | cons ra rb => exact .cons (toP_dp rh (n + 1) x _ d e1 ra) (toPs_dp rh (n + 1) xs _ ds e2 rb)
    · cases e
end
abbrev deep : Nat := 40
section
variable {X : Cx}
def dataOp (g : PyData → PyData → Bool) : Op2 := fun x y h => match toP h deep x, toP h deep y with
  | some d, some e => if SeqAt.shaped d = true ∧ SeqAt.shaped e = true then .ok (.bl (g d e)) h else .bad
  | _, _ => .bad
def strOp (g : Str → Str → Bool) : Op2 := fun x y h => match x, y with | .str a, .str b => .ok (.bl (g a b)) h | _, _ => .bad
def orOp (p q : Op2) : Op2 := fun x y h => match p x y h with | .ok v h' => .ok v h' | _ => q x y h
theorem orOp_hd {p q : Op2} : ∀ x y k v k', orOp p q x y k = .ok v k' → p x y k = .ok v k' ∨ q x y k = .ok v k' := fun x y k v k' e => by
  unfold orOp at e
  split at e
  · rename_i v' h' q; cases e; exact .inl q
  · exact .inr e
def oEq : Op2 := orOp (strOp fun a b => decide (a = b)) (dataOp PyData.eqv)
def oNe : Op2 := orOp (strOp fun a b => !decide (a = b)) (dataOp fun d e => !PyData.eqv d e)
theorem sp_str {K : PySem.W.Frag} {g : Str → Str → Bool} {r : R2} (hr : ∀ a b H Q, Q (.bl (g a b)) H → r (.str a) (.str b) H Q) : OpS K (strOp g) r := by
  intro ρ h H x y x' y' v h' Q rh rx ry e k
  unfold strOp at e
  split at e
  · cases e
    cases rx
    cases ry
    exact hr _ _ H Q (k ρ _ H Ext.refl rh (.bl _))
  · cases e
theorem sp_data {K : PySem.W.Frag} {g : PyData → PyData → Bool} : OpS K (dataOp g) (fun x y H Q => ∃ d e, Dp K H x d ∧ Dp K H y e ∧ SeqAt.shaped d = true ∧ SeqAt.shaped e = true ∧ Q (.bl (g d e)) H) := by
  intro ρ h H x y x' y' v h' Q rh rx ry e k
  unfold dataOp at e
  split at e
  · rename_i d d' e1 e2
    split at e
    · rename_i c
      cases e
      exact ⟨d, d', toP_dp rh _ _ _ _ e1 rx, toP_dp rh _ _ _ _ e2 ry, c.1, c.2, k ρ _ H Ext.refl rh (.bl _)⟩
    · cases e
  · cases e
theorem op_eqA (hu : X.A.units + 64 < cLine) : OpR X (compareOp .Eq) (fun x y H Q => rEq x y H Q ∨ rEqD X.K x y H Q) := OpR.or op_eq (op_eqD hu)
theorem op_neA (hu : X.A.units + 64 < cLine) : OpR X (compareOp .NotEq) (fun x y H Q => rNe x y H Q ∨ rNeD X.K x y H Q) := OpR.or op_ne (op_neD hu)
theorem dec_str' {a b : Str} : decide (V.str a = V.str b) = decide (a = b) := by
  by_cases e : a = b
  · subst e; simp
  · rw [decide_eq_false (fun q => e (V.str.inj q)), decide_eq_false e]
theorem sp_eq {K : PySem.W.Frag} : OpS K oEq (fun x y H Q => rEq x y H Q ∨ rEqD K x y H Q) := OpS.or (sp_str fun a b H Q q => ⟨rfl, by rw [dec_str']; exact q⟩) sp_data orOp_hd
theorem sp_ne {K : PySem.W.Frag} : OpS K oNe (fun x y H Q => rNe x y H Q ∨ rNeD K x y H Q) := OpS.or (sp_str fun a b H Q q => ⟨rfl, by rw [dec_str']; exact q⟩) sp_data orOp_hd
def flatD : D → Bool
  | .non => true
  | .bl _ => true
  | .int _ => true
  | .str _ => true
  | _ => false
def eqF : D → D → Bool
  | .non, .non => true
  | .bl a, .bl b => a == b
  | .bl a, .int b => (if a then 1 else 0) == b
  | .int a, .bl b => a == (if b then 1 else 0)
  | .int a, .int b => a == b
  | .str a, .str b => a == b
  | _, _ => false
def seqOf (y : D) (h : AH) : Option (List D) := match y with
  | .tup xs => some xs
  | .fz xs => some xs
  | .ref n => match h[n]? with | some (.lst xs) => some xs | _ => none
  | _ => none
theorem seq_rel {K : PySem.W.Frag} {ρ : List Addr} {h : AH} {H : Hp} (rh : RH K ρ h H) {y : D} {v : V} {xs : List D} (e : seqOf y h = some xs) (r : RV K ρ H y v) : ∃ p ys, v = .ref p ∧ (SqL K H p ys ∨ SqT K H p ys) ∧ RVs K ρ H xs ys := by
  unfold seqOf at e
  split at e
  · cases e
    cases r with
    | tup hs r => exact ⟨_, _, rfl, .inr hs, r⟩
  · cases e
    cases r with
    | fz hs r => exact ⟨_, _, rfl, .inl hs.sq, r⟩
  · split at e
    · rename_i q
      cases e
      cases r with
      | ref hr =>
        obtain ⟨ys, hy, ry⟩ := rh.ob _ _ _ q hr
        exact ⟨_, _, rfl, .inl (SqL.of hy), ry⟩
    · cases e
  · cases e
abbrev BF := List D → AH → R D
def CallS (K : PySem.W.Frag) (o : BF) (r : List V → Hp → VK → Prop) : Prop := ∀ (ρ : List Addr) (h : AH) (H : Hp) (xs : List D) (ys : List V) (v : D) (h' : AH) (Q : VK), RH K ρ h H → RVs K ρ H xs ys → o xs h = .ok v h' →
  (∀ ρ' z H', Ext K ρ H ρ' H' → RH K ρ' h' H' → RV K ρ' H' v z → Q z H') → r ys H Q
def eApp (o : BF) (f : AF) : EF := fun σ h => (f σ h).bind fun xs h1 => o xs h1
theorem app_in {K : PySem.W.Frag} {o : BF} {r : List V → Hp → VK → Prop} {f : AF} (hs : CallS K o r) : ∀ σ H Q, tE K (eApp o f) σ H Q → tCB r (tA K f) σ H Q := fun σ H Q q => by
  obtain ⟨ρ, σa, h, v, h', rh, rs, e, k⟩ := q
  obtain ⟨xs, h1, e1, e⟩ := bind_eq e
  exact ⟨ρ, σa, h, xs, h1, rh, rs, e1, fun ρ1 ys H1 p1 rh1 rx => hs ρ1 h1 H1 xs ys v h' Q rh1 rx e fun ρ2 z H2 p2 rh2 rz => k ρ2 z H2 (p1.trans p2) rh2 rz⟩
theorem se_bi {x : Str} {id : String} {o : BF} {r : List V → Hp → VK → Prop} {e : Expr} {es : List Expr} {f : AF} {p pos : Pos} (hc : CallR X (.builtin id) r) (hs : CallS X.K o r) (hm : X.mg x = none) (hv : bootBuiltins x = some (.builtin id)) (ha : SA X (e :: es) f) (hg : Gl X x := by rfl) (hn : x ≠ "__name__" := by decide +kernel) (hdb : (x == ("__debug__" : Str)) = false := by decide +kernel)
    (he : starEach (e :: es) X.env = (false, eval e X.env) :: starEach es X.env := by rfl) (hpl : (backTo pos (starEach es X.env)).any (·.1) = false := by rfl) : SE X (.Call (.Name x p) (e :: es) [] pos) (eApp o f) :=
  ⟨PE.of (pe_callB hc hg hm hv ha.out hn hdb he hpl) (app_in hs)⟩
theorem se_ty {x : Str} {id : String} {o : BF} {r : List V → Hp → VK → Prop} {e : Expr} {es : List Expr} {f : AF} {p pos : Pos} (hc : CallR X (.type id) r) (hs : CallS X.K o r) (hm : X.mg x = none) (hv : bootBuiltins x = some (.type id)) (ha : SA X (e :: es) f) (hg : Gl X x := by rfl) (hn : x ≠ "__name__" := by decide +kernel) (hdb : (x == ("__debug__" : Str)) = false := by decide +kernel)
    (he : starEach (e :: es) X.env = (false, eval e X.env) :: starEach es X.env := by rfl) (hpl : (backTo pos (starEach es X.env)).any (·.1) = false := by rfl) : SE X (.Call (.Name x p) (e :: es) [] pos) (eApp o f) :=
  ⟨PE.of (pe_callTy hc hg hm hv ha.out hn hdb he hpl) (app_in hs)⟩
def bAbs : BF := fun xs h => match xs with | [.int i] => .ok (.int (if i < 0 then -i else i)) h | _ => .bad
theorem sp_abs {K : PySem.W.Frag} : CallS K bAbs (fun xs H Q => ∃ i, xs = [.int i] ∧ Q (.int (if i < 0 then -i else i)) H) := by
  intro ρ h H xs ys v h' Q rh rx e k
  unfold bAbs at e
  split at e
  · cases e
    cases rx with
    | cons a b => cases b; cases a; exact ⟨_, rfl, k ρ _ H Ext.refl rh (.int _)⟩
  · cases e
theorem se_abs {e : Expr} {f : AF} {p pos : Pos} (hm : X.mg "abs" = none) (ha : SA X [e] f) (hg : Gl X "abs" := by rfl) (he : starEach [e] X.env = (false, eval e X.env) :: starEach [] X.env := by rfl) (hpl : (backTo pos (starEach [] X.env)).any (·.1) = false := by rfl) : SE X (.Call (.Name "abs" p) [e] [] pos) (eApp bAbs f) :=
  se_bi call_abs sp_abs hm (by decide +kernel) ha hg (by decide +kernel) (by decide +kernel) he hpl
def bLen : BF := fun xs h => match xs with
  | [x] => match seqOf x h with
    | some ys => .ok (.int ys.length) h
    | none => match x with
      | .ref n => match h[n]? with | some (.dct kvs) => .ok (.int kvs.length) h | _ => .bad
      | _ => .bad
  | _ => .bad
def rLenA (K : PySem.W.Frag) : List V → Hp → VK → Prop := fun xs H Q => (∃ p ys, xs = [.ref p] ∧ (SqL K H p ys ∨ SqT K H p ys) ∧ Q (.int ys.length) H) ∨ ∃ a kvs, xs = [V.ref a] ∧ H a = some (.dK kvs) ∧ Q (.int kvs.length) H
theorem call_lenA : CallR X (.builtin "len") (rLenA X.K) := by
  intro pins s σ H xs us Q I r h
  rcases h with h | h
  · exact call_len_seq pins s σ H xs us Q I r h
  · exact call_lenD pins s σ H xs us Q I r h
theorem sp_len {K : PySem.W.Frag} : CallS K bLen (rLenA K) := by
  intro ρ h H xs ys v h' Q rh rx e k
  unfold bLen at e
  split at e
  · rename_i x
    cases rx with
    | cons a b =>
      cases b
      split at e
      · rename_i zs q
        cases e
        obtain ⟨p, ys, rfl, hs, r⟩ := seq_rel rh q a
        refine .inl ⟨p, ys, rfl, hs, ?_⟩
        rw [← r.length]
        exact k ρ _ H Ext.refl rh (.int _)
      · split at e
        · split at e
          · rename_i q
            cases e
            cases a with
            | ref hr =>
              obtain ⟨ys, hy, ry⟩ := rh.ob _ _ _ q hr
              refine .inr ⟨_, ys, rfl, hy, ?_⟩
              rw [← ry.length]
              exact k ρ _ H Ext.refl rh (.int _)
          · cases e
        · cases e
  · cases e
theorem se_len {e : Expr} {f : AF} {p pos : Pos} (hm : X.mg "len" = none) (ha : SA X [e] f) (hg : Gl X "len" := by rfl) (he : starEach [e] X.env = (false, eval e X.env) :: starEach [] X.env := by rfl) (hpl : (backTo pos (starEach [] X.env)).any (·.1) = false := by rfl) : SE X (.Call (.Name "len" p) [e] [] pos) (eApp bLen f) :=
  se_bi call_lenA sp_len hm (by decide +kernel) ha hg (by decide +kernel) (by decide +kernel) he hpl
def bTuple : BF := fun xs h => match xs with
  | [.tup ys] => .ok (.tup ys) h
  | [x] => match seqOf x h with | some ys => .ok (.tup ys) h | none => .bad
  | _ => .bad
theorem sp_tuple {K : PySem.W.Frag} : CallS K bTuple (fun xs H Q => ∃ p ys, xs = [.ref p] ∧ ((SqL K H p ys ∧ ∀ l, H l = none → Q (.ref l) (upd H l (.tup ys))) ∨ (SqT K H p ys ∧ Q (.ref p) H))) := by
  intro ρ h H xs ys v h' Q rh rx e k
  unfold bTuple at e
  split at e
  · cases e
    cases rx with
    | cons a b =>
      cases b
      cases a with
      | tup hs r => exact ⟨_, _, rfl, .inr ⟨hs, k ρ _ H Ext.refl rh (.tup hs r)⟩⟩
  · split at e
    · rename_i q
      cases e
      cases rx with
      | cons a b =>
        cases b
        obtain ⟨p, ys, rfl, hs, r⟩ := seq_rel rh q a
        rcases hs with hs | hs
        · exact ⟨p, ys, rfl, .inl ⟨hs, fun l hl => k ρ _ _ (Ext.upd (.inl hl)) (rh.laid hl) (.newTup r hl)⟩⟩
        · exact ⟨p, ys, rfl, .inr ⟨hs, k ρ _ H Ext.refl rh (.tup hs r)⟩⟩
    · cases e
  · cases e
theorem se_tuple {e : Expr} {f : AF} {p pos : Pos} (hm : X.mg "tuple" = none) (ha : SA X [e] f) (hg : Gl X "tuple" := by rfl) (he : starEach [e] X.env = (false, eval e X.env) :: starEach [] X.env := by rfl) (hpl : (backTo pos (starEach [] X.env)).any (·.1) = false := by rfl) : SE X (.Call (.Name "tuple" p) [e] [] pos) (eApp bTuple f) :=
  se_ty call_tuple_of sp_tuple hm (by decide +kernel) ha hg (by decide +kernel) (by decide +kernel) he hpl
def bList : BF := fun xs h => match xs with
  | [x] => match seqOf x h with | some ys => newL ys h | none => .bad
  | _ => .bad
theorem sp_list {K : PySem.W.Frag} : CallS K bList (fun xs H Q => ∃ p ys, xs = [.ref p] ∧ (SqL K H p ys ∨ SqT K H p ys) ∧ ∀ l, H l = none → Q (.ref l) (upd H l (.lst ys))) := by
  intro ρ h H xs ys v h' Q rh rx e k
  unfold bList at e
  split at e
  · split at e
    · rename_i q
      cases e
      cases rx with
      | cons a b =>
        cases b
        obtain ⟨p, ys, rfl, hs, r⟩ := seq_rel rh q a
        refine ⟨p, ys, rfl, hs, fun l hl => ?_⟩
        obtain ⟨a, b, c⟩ := newL_ok rh r hl
        exact k _ _ _ a b c
    · cases e
  · cases e
theorem se_list {e : Expr} {f : AF} {p pos : Pos} (hm : X.mg "list" = none) (ha : SA X [e] f) (hg : Gl X "list" := by rfl) (he : starEach [e] X.env = (false, eval e X.env) :: starEach [] X.env := by rfl) (hpl : (backTo pos (starEach [] X.env)).any (·.1) = false := by rfl) : SE X (.Call (.Name "list" p) [e] [] pos) (eApp bList f) :=
  se_ty call_list_of sp_list hm (by decide +kernel) ha hg (by decide +kernel) (by decide +kernel) he hpl
def blsOf : List D → Option (List Bool)
  | [] => some []
  | .bl b :: r => (blsOf r).map (b :: ·)
  | _ => none
def bAll : BF := fun xs h => match xs with
  | [.ref n] => match h[n]? with | some (.lst ys) => (match blsOf ys with | some bs => .ok (.bl (bs.all id)) h | none => .bad) | _ => .bad
  | _ => .bad
theorem bls_rel {K : PySem.W.Frag} {ρ : List Addr} {H : Hp} : ∀ {xs : List D} {ys : List V} {bs : List Bool}, RVs K ρ H xs ys → blsOf xs = some bs → ys = bs.map V.bl
  | _, _, _, .nil, e => by simp [blsOf] at e; subst e; rfl
  | x :: xs, _, _, .cons a b, e => by
    unfold blsOf at e
    split at e
    · rename_i h; cases h
    · rename_i b' r h
      cases h
      cases q : blsOf xs with
      | none => rw [q] at e; cases e
      | some bs' =>
        rw [q] at e
        cases e
        cases a
        rw [bls_rel b q]
        rfl
    · cases e
theorem sp_all {K : PySem.W.Frag} : CallS K bAll (rAll K) := by
  intro ρ h H xs ys v h' Q rh rx e k
  unfold bAll at e
  split at e
  · split at e
    · rename_i q
      split at e
      · rename_i eb
        cases e
        cases rx with
        | cons a b =>
          cases b
          cases a with
          | ref hr =>
            obtain ⟨ys, hy, ry⟩ := rh.ob _ _ _ q hr
            have := bls_rel ry eb
            subst this
            exact ⟨_, _, rfl, SqL.of hy, k ρ _ H Ext.refl rh (.bl _)⟩
      · cases e
    · cases e
  · cases e
theorem se_all {e : Expr} {f : AF} {p pos : Pos} (hc : X.calm = true) (hm : X.mg "all" = none) (ha : SA X [e] f) (hg : Gl X "all" := by rfl) (he : starEach [e] X.env = (false, eval e X.env) :: starEach [] X.env := by rfl) (hpl : (backTo pos (starEach [] X.env)).any (·.1) = false := by rfl) : SE X (.Call (.Name "all" p) [e] [] pos) (eApp bAll f) :=
  se_bi (cr_all hc) sp_all hm (by decide +kernel) ha hg (by decide +kernel) (by decide +kernel) he hpl
def bInt : BF := fun xs h => match xs with
  | [.int i] => .ok (.int i) h
  | [.bl b] => .ok (.int (if b then 1 else 0)) h
  | _ => .bad
theorem sp_int {K : PySem.W.Frag} : CallS K bInt (fun xs H Q => (∃ i, xs = [.int i] ∧ Q (.int i) H) ∨ ∃ k, xs = [.bl k] ∧ Q (.int (if k then 1 else 0)) H) := by
  intro ρ h H xs ys v h' Q rh rx e k
  unfold bInt at e
  split at e
  · cases e
    cases rx with
    | cons a b => cases b; cases a; exact .inl ⟨_, rfl, k ρ _ H Ext.refl rh (.int _)⟩
  · cases e
    cases rx with
    | cons a b => cases b; cases a; exact .inr ⟨_, rfl, k ρ _ H Ext.refl rh (.int _)⟩
  · cases e
theorem se_intc {e : Expr} {f : AF} {p pos : Pos} (hm : X.mg "int" = none) (ha : SA X [e] f) (hg : Gl X "int" := by rfl) (he : starEach [e] X.env = (false, eval e X.env) :: starEach [] X.env := by rfl) (hpl : (backTo pos (starEach [] X.env)).any (·.1) = false := by rfl) : SE X (.Call (.Name "int" p) [e] [] pos) (eApp bInt f) :=
  se_ty call_int1 sp_int hm (by decide +kernel) ha hg (by decide +kernel) (by decide +kernel) he hpl
end
end EV
set_option Elab.async false
set_option linter.all false
set_option autoImplicit false
set_option maxRecDepth 100000
namespace EV
open PySem PySem.Spec PyProof.Rows L2
inductive Ty where
  | non | bl | int | str | tup | lst | dct
  deriving DecidableEq
def Ty.name : Ty → String
  | .non => "NoneType" | .bl => "bool" | .int => "int" | .str => "str" | .tup => "tuple" | .lst => "list" | .dct => "dict"
def tyD (x : D) (h : AH) : Option Ty := match x with
  | .non => some .non | .bl _ => some .bl | .int _ => some .int | .str _ => some .str | .tup _ => some .tup | .fz _ => some .lst
  | .ref n => match h[n]? with | some (.lst _) => some .lst | some (.dct _) => some .dct | none => none
def isSub (t c : Ty) : Bool := decide (t = c) || (decide (t = .bl) && decide (c = .int))
theorem kit_ty (K : PySem.W.Frag) (t c : Ty) : PySem.W.kitOne K (.type t.name) (.type c.name) = some (isSub t c) := by
  cases t <;> cases c <;> (with_unfolding_all rfl)
section
variable {X : Cx}
inductive TyN (K : PySem.W.Frag) (H : Hp) : V → Ty → Prop where
  | non : TyN K H .non .non
  | bl (x : Bool) : TyN K H (.bl x) .bl
  | int (i : Int) : TyN K H (.int i) .int
  | str (x : Str) : TyN K H (.str x) .str
  | lst {a : Addr} {xs : List V} (e : SqL K H a xs) : TyN K H (.ref a) .lst
  | tup {a : Addr} {xs : List V} (e : SqT K H a xs) : TyN K H (.ref a) .tup
  | dK {a : Addr} {kvs : List (Key × V)} (e : H a = some (.dK kvs)) : TyN K H (.ref a) .dct
def rIsi (K : PySem.W.Frag) (c : Ty) : List V → Hp → VK → Prop := fun xs H Q => ∃ x t, xs = [x, .ty c.name] ∧ TyN K H x t ∧ Q (.bl (isSub t c)) H
theorem call_isi (c : Ty) : CallR X (.builtin "isinstance") (rIsi X.K c) := by
  intro pins s σ H xs us Q I r h
  obtain ⟨x, t, rfl, ty, q⟩ := h
  obtain ⟨u, w', rfl, ru, rw'⟩ := vals2 r
  cases (show w' = Value.type c.name from rw')
  have e := kit_ty X.K t c
  have fin : ∀ tk, EP X pins σ Q (.bool (isSub t c)) { s with toks := tk } := fun tk => ⟨.bl _, H, I.tok tk, rfl, q⟩
  cases ty with
  | non => cases (show u = Value.none from ru); exact PySem.W.kia_one PySem.W.kitx_none I.kIn True.intro e (fun z => nomatch z) fin
  | bl y => cases (show u = Value.bool y from ru); exact PySem.W.kia_one PySem.W.kitx_bool I.kIn True.intro e (fun z => nomatch z) fin
  | int i => obtain ⟨t, q⟩ := (show ∃ t, u = Value.int i t from ru); cases q; exact PySem.W.kia_one PySem.W.kitx_int I.kIn True.intro e (fun z => nomatch z) fin
  | str y => obtain ⟨t, q⟩ := (show ∃ t, u = Value.str y t from ru); cases q; exact PySem.W.kia_one PySem.W.kitx_str I.kIn True.intro e (fun z => nomatch z) fin
  | @lst a xs ea =>
    cases (show u = Value.ref a from ru)
    obtain ⟨its, _, ⟨o, n, h1, h2, _⟩, _⟩ := I.list ea
    exact PySem.W.kia_one PySem.W.kitx_list I.kIn ⟨o, h1, h2⟩ e (fun z => nomatch z) fin
  | @tup a xs ea =>
    cases (show u = Value.ref a from ru)
    obtain ⟨its, _, ⟨o, h1, h2, _⟩, _⟩ := I.tuple ea
    exact PySem.W.kia_one PySem.W.kitx_tuple I.kIn ⟨o, h1, h2⟩ e (fun z => nomatch z) fin
  | @dK a kvs ea =>
    cases (show u = Value.ref a from ru)
    obtain ⟨_, _, vs, _, p⟩ := (show ObjOk X.prog X.w H s.heap a (.dK kvs) from I.hok a _ ea)
    obtain ⟨o, es, ep, h1, h2, _⟩ := p
    exact PySem.W.kia_one PySem.W.kitx_dict I.kIn ⟨o, h1, h2.1⟩ e (fun z => nomatch z) fin
theorem tyD_rel {K : PySem.W.Frag} {ρ : List Addr} {h : AH} {H : Hp} (rh : RH K ρ h H) {x : D} {v : V} {t : Ty} (e : tyD x h = some t) (r : RV K ρ H x v) : TyN K H v t := by
  cases r with
  | non => cases e; exact .non
  | bl b => cases e; exact .bl b
  | int b => cases e; exact .int b
  | str b => cases e; exact .str b
  | tup hs _ => cases e; exact .tup hs
  | fz hs _ => cases e; exact .lst hs.sq
  | ref hr =>
    unfold tyD at e
    split at e <;> try (rename_i q; cases q; done)
    rename_i q0
    cases q0
    split at e
    · rename_i q
      cases e
      obtain ⟨ys, hy, _⟩ := rh.ob _ _ _ q hr
      exact .lst (SqL.of hy)
    · rename_i q
      cases e
      obtain ⟨ys, hy, _⟩ := rh.ob _ _ _ q hr
      exact .dK hy
    · cases e
def eIsi (c : Ty) (f : EF) : EF := fun σ h => (f σ h).bind fun x h1 => match tyD x h1 with | some t => .ok (.bl (isSub t c)) h1 | none => .bad
theorem se_isi {e : Expr} {f : EF} {cn : Str} {p p2 pos : Pos} (c : Ty) (hm : X.mg "isinstance" = none) (hm2 : X.mg cn = none) (ha : SE X e f) (hb : bootBuiltins cn = some (.type c.name) := by decide +kernel) (hg : Gl X "isinstance" := by rfl) (hg2 : Gl X cn := by rfl) (hn : cn ≠ "__name__" := by decide +kernel) (hd : (cn == ("__debug__" : Str)) = false := by decide +kernel)
    (he : starEach [e, .Name cn p2] X.env = (false, eval e X.env) :: starEach [.Name cn p2] X.env := by rfl) (he2 : starEach [.Name cn p2] X.env = (false, eval (.Name cn p2) X.env) :: starEach [] X.env := by rfl) (hpl : (backTo pos (starEach [.Name cn p2] X.env)).any (·.1) = false := by rfl) : SE X (.Call (.Name "isinstance" p) [e, .Name cn p2] [] pos) (eIsi c f) :=
  ⟨PE.of (pe_callB (call_isi c) hg hm (by decide +kernel) (pa_cons ha.out (pa_cons (pe_bltn hg2 hm2 hb (v := .ty c.name) rfl hn hd) pa_nil he2) he) (by decide +kernel) (by decide +kernel) he hpl) fun σ H Q q => by
  obtain ⟨ρ, σa, h, v, h', rh, rs, e, k⟩ := q
  obtain ⟨x, h1, e1, e⟩ := bind_eq e
  refine ⟨ρ, σa, h, x, h1, rh, rs, e1, fun ρ1 x' H1 p1 rh1 rx => ?_⟩
  split at e
  · rename_i t et
    cases e
    exact ⟨x', t, rfl, tyD_rel rh1 et rx, k ρ1 _ H1 p1 rh1 (.bl _)⟩
  · cases e⟩
abbrev PFs := Fr → AH → R (List (D × D))
def pNil : PFs := fun _ h => .ok [] h
def pCons (f g : EF) (r : PFs) : PFs := fun σ h => (f σ h).bind fun x h1 => (g σ h1).bind fun y h2 => (r σ h2).bind fun ps h3 => .ok ((x, y) :: ps) h3
inductive RPs (K : PySem.W.Frag) (ρ : List Addr) (H : Hp) : List (D × D) → List (V × V) → Prop
  | nil : RPs K ρ H [] []
  | cons {a b : D} {x y : V} {ds : List (D × D)} {vs : List (V × V)} : RV K ρ H a x → RV K ρ H b y → RPs K ρ H ds vs → RPs K ρ H ((a, b) :: ds) ((x, y) :: vs)
structure SP' (X : Cx) (pos : Pos) (keys : List (Option Expr)) (values : List Expr) (f : PFs) : Prop where
  out : ∃ trs, PPs X pos keys values trs ∧ ∀ (ρ : List Addr) (σa : Fr) (h : AH) (σ : L2.St) (H : Hp) (ps : List (D × D)) (h' : AH) (Q : List (V × V) → Hp → Prop), RH X.K ρ h H → RS X.K ρ H σa σ → f σa h = .ok ps h' →
    (∀ ρ' vs H', Ext X.K ρ H ρ' H' → RH X.K ρ' h' H' → RPs X.K ρ' H' ps vs → Q vs H') → tPairs trs σ H Q
theorem sp_nil {pos : Pos} : SP' X pos [] [] pNil := ⟨[], pps_nil, fun ρ σa h σ H ps h' Q rh rs e k => by cases e; exact k ρ [] H Ext.refl rh .nil⟩
theorem sp_cons {pos : Pos} {k v : Expr} {ks : List (Option Expr)} {vs : List Expr} {f g : EF} {r : PFs} (hk : SE X k f) (hv : SE X v g) (hr : SP' X pos ks vs r) : SP' X pos (some k :: ks) (v :: vs) (pCons f g r) := by
  obtain ⟨trs, h1, h2⟩ := hr.out
  refine ⟨_, pps_cons hk.out hv.out h1, fun ρ σa h σ H ps h' Q rh rs e k => ?_⟩
  obtain ⟨x, j1, e1, e⟩ := bind_eq e
  obtain ⟨y, j2, e2, e⟩ := bind_eq e
  obtain ⟨qs, j3, e3, e⟩ := bind_eq e
  cases e
  exact ⟨ρ, σa, h, x, j1, rh, rs, e1, fun ρ1 x' H1 p1 rh1 rx => ⟨ρ1, σa, j1, y, j2, rh1, rs.up p1, e2, fun ρ2 y' H2 p2 rh2 ry =>
    h2 ρ2 σa j2 σ H2 qs h' _ rh2 (rs.up (p1.trans p2)) e3 fun ρ3 vs H3 p3 rh3 rp => k ρ3 _ H3 (p1.trans (p2.trans p3)) rh3 (.cons (rx.up (p2.trans p3)) (ry.up p3) rp)⟩⟩
def keysOf : List (D × D) → Option (List (Key × D))
  | [] => some []
  | (k, v) :: r => match dKey k, keysOf r with | some k, some r => some ((k, v) :: r) | _, _ => none
theorem keys_rel {K : PySem.W.Frag} {ρ : List Addr} {H : Hp} {ps : List (D × D)} {vs : List (V × V)} (r : RPs K ρ H ps vs) : ∀ {kvs : List (Key × D)}, keysOf ps = some kvs → ∃ kvs', vs = kvs'.map (fun kv => (kV kv.1, kv.2)) ∧ RK K ρ H kvs kvs' := by
  induction r with
  | nil => intro kvs e; cases e; exact ⟨[], rfl, .nil⟩
  | cons a b _ ih =>
    intro kvs e
    unfold keysOf at e
    split at e
    · rename_i k r ek er
      cases e
      obtain ⟨kvs', e1, e2⟩ := ih er
      have := dKey_rel ek a
      subst this
      exact ⟨(k, _) :: kvs', by rw [e1]; rfl, .cons b e2⟩
    · cases e
def mergeD (kvs more : List (Key × D)) : List (Key × D) := more.foldl (fun acc kv => dput acc kv.1 kv.2) kvs
theorem merge_rel {K : PySem.W.Frag} {ρ : List Addr} {H : Hp} {more : List (Key × D)} {more' : List (Key × V)} (r : RK K ρ H more more') : ∀ {kvs : List (Key × D)} {kvs' : List (Key × V)}, RK K ρ H kvs kvs' → RK K ρ H (mergeD kvs more) (mergeK kvs' more') := by
  induction r with
  | nil => intro kvs kvs' q; exact q
  | cons a b ih => intro kvs kvs' q; exact ih (q.put a)
def eDisp (f : PFs) : EF := fun σ h => (f σ (h ++ [.dct []])).bind fun ps h2 => match h2[h.length]?, keysOf ps with
  | some (.dct []), some kvs => if kvs.length ≤ 15 then .ok (.ref h.length) (h2.set h.length (.dct (mergeD [] kvs))) else .bad
  | _, _ => .bad
theorem se_disp {keys : List (Option Expr)} {values : List Expr} {f : PFs} {pos : Pos} (hp : SP' X pos keys values f) (hall : keys.all (·.isSome) = true := by rfl) (hl : keys.length = values.length := by rfl) (h0 : keys ≠ [] := by exact fun z => by cases z) (h15 : keys.length ≤ 15 := by decide) : SE X (.Dict keys values pos) (eDisp f) := by
  obtain ⟨trs, h1, h2⟩ := hp.out
  refine ⟨PE.of (pe_disp h1 hall hl h0 h15) fun σ H Q q => ?_⟩
  obtain ⟨ρ, σa, h, v, h', rh, rs, e, k⟩ := q
  obtain ⟨ps, j, e1, e⟩ := bind_eq e
  intro p hpn
  have rh1 : RH X.K (ρ ++ [p]) (h ++ [.dct []]) (upd H p (.dK [])) := rh.new hpn ⟨[], upd_same, .nil⟩
  refine h2 _ σa _ σ _ ps j _ rh1 (rs.up (Ext.new hpn)) e1 fun ρ2 vs H2 p2 rh2 rp => ?_
  split at e
  · rename_i kvs q1 q2
    split at e
    · rename_i hl
      cases e
      have hr : (ρ ++ [p])[h.length]? = some p := by rw [← rh.len, List.getElem?_append_right (Nat.le_refl _)]; simp
      have hr2 := p2.pre _ _ hr
      obtain ⟨ys, hy, ry⟩ := rh2.ob _ _ _ q1 hr2
      cases ry
      obtain ⟨kvs', e1, e2⟩ := keys_rel rp q2
      have ext : ∀ u, Ext X.K ρ2 H2 ρ2 (upd H2 p u) := fun u => Ext.upd (.inr (rh2.mut hr2))
      exact ⟨hy, kvs', e1, by rw [← e2.length]; exact hl, k ρ2 _ _ ((Ext.new hpn).trans (p2.trans (ext _))) (rh2.set hr2 ⟨_, upd_same, (merge_rel e2 .nil).up (ext _)⟩) (.ref hr2)⟩
    · cases e
  · cases e
def eDict0 : EF := fun _ h => .ok (.ref h.length) (h ++ [.dct []])
theorem se_dict0 {pos : Pos} : SE X (.Dict [] [] pos) eDict0 := ⟨PE.of pe_dnewK fun σ H Q q => by
  obtain ⟨ρ, σa, h, v, h', rh, rs, e, k⟩ := q
  cases e
  intro p hpn
  exact k _ _ _ (Ext.new hpn) (rh.new hpn ⟨[], upd_same, .nil⟩) (ref_new rh _)⟩
end
mutual
def below (n : Nat) : D → Bool
  | .tup xs => belows n xs
  | .fz xs => belows n xs
  | .ref m => decide (m < n)
  | _ => true
def belows (n : Nat) : List D → Bool
  | [] => true
  | x :: xs => below n x && belows n xs
end
def belowO (n : Nat) : AO → Bool
  | .lst xs => belows n xs
  | .dct kvs => belows n (kvs.map (·.2))
mutual
theorem RV.isBelow {K : PySem.W.Frag} {ρ : List Addr} {H : Hp} : ∀ {d : D} {v : V}, RV K ρ H d v → below ρ.length d = true
  | _, _, .non => rfl
  | _, _, .bl _ => rfl
  | _, _, .int _ => rfl
  | _, _, .str _ => rfl
  | _, _, .tup _ r => by simpa [EV.below] using RVs.isBelow r
  | _, _, .fz _ r => by simpa [EV.below] using RVs.isBelow r
  | _, _, .ref h => by simpa [EV.below] using (List.getElem?_eq_some_iff.mp h).1
theorem RVs.isBelow {K : PySem.W.Frag} {ρ : List Addr} {H : Hp} : ∀ {xs : List D} {ys : List V}, RVs K ρ H xs ys → belows ρ.length xs = true
  | _, _, .nil => rfl
  | _, _, .cons a b => by simp [EV.belows, RV.isBelow a, RVs.isBelow b]
end
mutual
theorem RV.down {K : PySem.W.Frag} {ρ : List Addr} {H : Hp} (n : Nat) : ∀ {d : D} {v : V}, RV K ρ H d v → EV.below n d = true → RV K (ρ.take n) H d v
  | _, _, .non, _ => .non
  | _, _, .bl b, _ => .bl b
  | _, _, .int i, _ => .int i
  | _, _, .str x, _ => .str x
  | _, _, .tup h r, e => .tup h (RVs.down n r (by simpa [EV.below] using e))
  | _, _, .fz h r, e => .fz h (RVs.down n r (by simpa [EV.below] using e))
  | _, _, .ref h, e => .ref (by rw [List.getElem?_take_of_lt (by simpa [EV.below] using e)]; exact h)
theorem RVs.down {K : PySem.W.Frag} {ρ : List Addr} {H : Hp} (n : Nat) : ∀ {xs : List D} {ys : List V}, RVs K ρ H xs ys → EV.belows n xs = true → RVs K (ρ.take n) H xs ys
  | _, _, .nil, _ => .nil
  | _, _, .cons a b, e => by
    simp only [EV.belows, Bool.and_eq_true] at e
    exact .cons (RV.down n a e.1) (RVs.down n b e.2)
end
section
variable {K : PySem.W.Frag} {ρ ρ' : List Addr} {h h' : AH} {H H' : Hp}
theorem RK.down (n : Nat) {xs : List (Key × D)} {ys : List (Key × V)} (r : RK K ρ H xs ys) (e : EV.belows n (xs.map (·.2)) = true) : RK K (ρ.take n) H xs ys := by
  induction r with
  | nil => exact .nil
  | cons a _ ih =>
    simp only [List.map_cons, EV.belows, Bool.and_eq_true] at e
    exact .cons (a.down n e.1) (ih e.2)
theorem RK.isBelow {xs : List (Key × D)} {ys : List (Key × V)} (r : RK K ρ H xs ys) : EV.belows ρ.length (xs.map (·.2)) = true := by
  induction r with
  | nil => rfl
  | cons a _ ih => simp [EV.belows, RV.isBelow a, ih]
theorem RO.isBelow {o : AO} {a : Addr} (r : RO K ρ H o a) : belowO ρ.length o = true := by
  cases o with
  | lst xs => obtain ⟨ys, _, h2⟩ := r; exact h2.isBelow
  | dct kvs => obtain ⟨ys, _, h2⟩ := r; exact h2.isBelow
theorem RO.down (n : Nat) {o : AO} {a : Addr} (r : RO K ρ H o a) (e : belowO n o = true) : RO K (ρ.take n) H o a := by
  cases o with
  | lst xs => obtain ⟨ys, h1, h2⟩ := r; exact ⟨ys, h1, h2.down n e⟩
  | dct kvs => obtain ⟨ys, h1, h2⟩ := r; exact ⟨ys, h1, h2.down n e⟩
def Clean (h h' : AH) (v : D) : Prop := below h.length v = true ∧ ∀ i, i < h.length → h'[i]? = h[i]? ∨ ∃ o, h'[i]? = some o ∧ belowO h.length o = true
open Classical in
noncomputable def cut (h h' : AH) (v : D) : AH := if Clean h h' v then h'.take h.length else h'
theorem cut_ok {v : D} {y : V} (rh : RH K ρ h H) (p : Ext K ρ H ρ' H') (rh' : RH K ρ' h' H') (rv : RV K ρ' H' v y) : ∃ ρ'', Ext K ρ H ρ'' H' ∧ RH K ρ'' (cut h h' v) H' ∧ RV K ρ'' H' v y := by
  unfold cut
  split
  · rename_i c
    have hl : ∀ (n : Nat) (a : Addr), (ρ'.take h.length)[n]? = some a → n < h.length ∧ ρ'[n]? = some a := fun n a e => by
      have := (List.getElem?_eq_some_iff.mp e).1
      rw [List.length_take] at this
      have hn : n < h.length := by omega
      rw [List.getElem?_take_of_lt hn] at e
      exact ⟨hn, e⟩
    refine ⟨ρ'.take h.length, ⟨fun n a e => ?_, p.tup, p.fz⟩, ⟨by simp [rh'.len], fun n m a e1 e2 => rh'.nd n m a (hl n a e1).2 (hl m a e2).2, fun n o a e1 e2 => ?_⟩, rv.down _ c.1⟩
    · have hn : n < h.length := by rw [← rh.len]; exact (List.getElem?_eq_some_iff.mp e).1
      rw [List.getElem?_take_of_lt hn]
      exact p.pre n a e
    · obtain ⟨hn, e3⟩ := hl n a e2
      rw [List.getElem?_take_of_lt hn] at e1
      refine (rh'.ob n o a e1 e3).down _ ?_
      rcases c.2 n hn with q | ⟨o', q1, q2⟩
      · rw [e1] at q
        obtain ⟨b, _, r⟩ := rh.at q.symm
        rw [← rh.len]
        exact r.isBelow
      · rw [e1] at q1; cases q1; exact q2
  · exact ⟨ρ', p, rh', rv⟩
end
def startD (n : Nat) (ds : List D) : Fr := ds.map some ++ List.replicate (n - ds.length) none
noncomputable def mkFn (np n : Nat) (b : SF) : BF := fun ds h => if ds.length = np then (match b (startD n ds) h with
  | .ok (.ret v) h' => .ok v (cut h h' v)
  | .ok (.next _) h' => .ok .non (cut h h' .non)
  | .ok (.brk _) _ => .bad
  | .ok (.cont _) _ => .bad
  | .ex e h' => .ex e h'
  | .bad => .bad) else .bad
theorem mkFn_len {np n : Nat} {b : SF} {ds : List D} {h : AH} {v : D} {h' : AH} (e : mkFn np n b ds h = .ok v h') : ds.length = np := by
  unfold mkFn at e
  split at e
  · rename_i q; exact q
  · cases e
def spF (K : PySem.W.Frag) (n : Nat) (F : BF) : Sp := fun vs H Q _ => ∃ ρ ds h v h', RH K ρ h H ∧ RVs K ρ H ds vs ∧ ds.length = n ∧ F ds h = .ok v h' ∧ ∀ ρ' y H', Ext K ρ H ρ' H' → RH K ρ' h' H' → RV K ρ' H' v y → Q y H'
theorem RS.start {K : PySem.W.Frag} {ρ : List Addr} {H : Hp} {N : List Str} {ds : List D} {vs : List V} (r : RVs K ρ H ds vs) : RS K ρ H (startD N.length ds) (L2.start N vs) := by
  refine ⟨by simp [startD, L2.start, r.length], fun i d e => ?_⟩
  unfold startD at e
  unfold L2.start
  by_cases hi : i < ds.length
  · rw [List.getElem?_append_left (by simpa using hi), List.getElem?_map] at e
    rw [List.getElem?_append_left (by rw [List.length_map, ← r.length]; exact hi), List.getElem?_map]
    cases q : ds[i]? with
    | none => rw [q] at e; cases e
    | some x =>
      rw [q] at e
      cases e
      obtain ⟨y, h1, h2⟩ := r.get q
      exact ⟨y, by rw [h1]; rfl, h2⟩
  · rw [List.getElem?_append_right (by simpa using hi), List.getElem?_replicate] at e
    split at e <;> cases e
structure FunA (K : PySem.W.Frag) (x qual : Str) (st : Stmt) (dV : Value) (f : Addr) (fd : FuncData) : Prop where
  ex : ∃ (oc : Value) (od : Option Addr) (kV doc pm : Value) (an : Option Addr) (cdv ct : Value) (osl : Array (Option Value)),
    fd = PySem.W.fnOf x qual (defArgs st) (defBody st) (defScope st) dV kV doc pm an cdv ct ∧ K.lookup f = some ⟨oc, od, .func fd, osl⟩ ∧ PySem.W.codeIn K cdv qual = true
  kp : PySem.W.keepIn K (.ref f) = true
section
variable {P : Program} {w : World} {K : PySem.W.Frag} {mg : Str → Option Value} {base : Heap}
theorem fn_ok {x qual : Str} {st : Stmt} {dV : Value} {f : Addr} {fd : FuncData} {N ps : List Str} {k : Nat} {b : SF} (F : FunA K x qual st dV f fd) (S : FnScope N ps (defScope st))
    (hb : ∀ (cdv : Value) (A : Around) (outer : List Env) (s : Shared) (H : Hp) (E : XK), Room k (A.deeper (envOfC qual (defScope st) s.heap.objs.size f cdv)) → SSs (cxOf CX0 P w K mg base N qual (defScope st) f cdv A outer s H E).nox (defBody st) b) :
    FnOk P w K mg base CX0 (k + 1) f fd ps (spF K ps.length (mkFn ps.length N.length b)) := by
  obtain ⟨oc, od, kV, doc, pm, an, cdv, ct, osl, rfl, lk, hcd⟩ := F.ex
  refine fn_of lk hcd S (fun vs H Q E q => ?_) fun A outer s H vs Q E hr hsp => ?_
  · obtain ⟨ρ, ds, h, v, h', rh, r, hl, _⟩ := q
    rw [← r.length]; exact hl
  · refine ⟨_, (hb cdv A outer s H E hr).out.nox, ?_⟩
    obtain ⟨ρ, ds, h, v, h', rh, r, hl, e, k⟩ := hsp
    unfold mkFn at e
    rw [if_pos hl] at e
    cases q : b (startD N.length ds) h with
    | bad => rw [q] at e; cases e
    | ex x y => rw [q] at e; cases e
    | ok fl h1 =>
      rw [q] at e
      refine ⟨ρ, _, h, fl, h1, rh, RS.start r, q, fun ρ1 H1 p1 rh1 => ?_⟩
      cases fl with
      | brk _ => cases e
      | cont _ => cases e
      | next σ1 =>
        cases e
        intro σ' _
        obtain ⟨ρ2, a, b, c⟩ := cut_ok rh p1 rh1 (RV.non)
        exact k ρ2 _ H1 a b c
      | ret v =>
        cases e
        intro y ry
        obtain ⟨ρ2, a, b, c⟩ := cut_ok rh p1 rh1 ry
        exact k ρ2 _ H1 a b c
structure HasFn (P : Program) (w : World) (K : PySem.W.Frag) (mg : Str → Option Value) (base : Heap) (k : Nat) (x : Str) (st : Stmt) (dV : Value) (ps : List Str) (F : BF) : Prop where
  ex : ∃ (f : Addr) (fd : FuncData), mg x = some (.ref f) ∧ FunA K x x st dV f fd ∧ FnOk P w K mg base CX0 k f fd ps (spF K ps.length F)
  len : ∀ ds h v h', F ds h = .ok v h' → ds.length = ps.length
theorem HasFn.mono {j k : Nat} {x : Str} {st : Stmt} {dV : Value} {ps : List Str} {F : BF} (h : HasFn P w K mg base j x st dV ps F) (l : j ≤ k) : HasFn P w K mg base k x st dV ps F := by
  obtain ⟨f, fd, a, b, c⟩ := h.ex
  exact ⟨⟨f, fd, a, b, c.mono l⟩, h.len⟩
end
section
variable {X : Cx} {k : Nat} {x : Str} {st : Stmt} {dV : Value} {ps : List Str} {F : BF} {e : Expr} {es : List Expr} {f g : AF} {p pos : Pos} {kws : List Keyword}
theorem se_call (HF : HasFn X.prog X.w X.K X.mg X.base k x st dV ps F) (hr : Room k X.A) (ha : SA X (e :: es) f)
    (hb : ∀ (kV doc pm : Value) (an : Option Addr) (cdv ct : Value) (us : List Value), us.length = ps.length → ∀ s : Shared, X.K.In s.heap → BindsTo s (PySem.W.fnOf x x (defArgs st) (defBody st) (defScope st) dV kV doc pm an cdv ct) ⟨us, []⟩ (ps.zip us))
    (hg : Gl X x := by rfl) (hdb : (x == ("__debug__" : Str)) = false := by decide +kernel) (he : starEach (e :: es) X.env = (false, eval e X.env) :: starEach es X.env := by rfl) (hpl : (backTo pos (starEach es X.env)).any (·.1) = false := by rfl) :
    SE X (.Call (.Name x p) (e :: es) [] pos) (eApp F f) := by
  obtain ⟨a, fd, hm, FA, ok⟩ := HF.ex
  obtain ⟨oc, od, kV, doc, pm, an, cdv, ct, osl, rfl, lk, hcd⟩ := FA.ex
  refine ⟨PE.of (pe_call (ds := []) (dvs := []) (E := E0) ok hr hg hm FA.kp (fun s us hK hl => ?_) .nil pass0 ha.out hdb he hpl) fun σ H Q q => ?_⟩
  · rw [List.append_nil] at hl ⊢
    exact hb kV doc pm an cdv ct us hl s hK
  · obtain ⟨ρ, σa, h, v, h', rh, rs, e, k⟩ := q
    obtain ⟨xs, h1, e1, e⟩ := bind_eq e
    refine ⟨ρ, σa, h, xs, h1, rh, rs, e1, fun ρ1 ys H1 p1 rh1 rx => ?_⟩
    show spF X.K ps.length F (ys ++ []) H1 Q E0
    rw [List.append_nil]
    exact ⟨ρ1, xs, h1, v, h', rh1, rx, HF.len xs h1 v h' e, e, fun ρ2 z H2 p2 rh2 rz => k ρ2 z H2 (p1.trans p2) rh2 rz⟩
def sel {α : Type} (is : List Nat) (xs : List α) : List α := is.filterMap fun i => xs[i]?
theorem sel_rel {K : PySem.W.Frag} {ρ : List Addr} {H : Hp} {xs : List D} {ys : List V} (r : RVs K ρ H xs ys) : ∀ is : List Nat, RVs K ρ H (sel is xs) (sel is ys)
  | [] => .nil
  | i :: is => by
    unfold sel
    rw [List.filterMap_cons, List.filterMap_cons]
    cases q : xs[i]? with
    | none =>
      have : ys[i]? = none := by rw [List.getElem?_eq_none_iff] at q ⊢; rw [← r.length]; exact q
      rw [this]
      exact sel_rel r is
    | some x =>
      obtain ⟨y, h1, h2⟩ := r.get q
      rw [h1]
      exact .cons h2 (sel_rel r is)
theorem sel_vals {xs : List V} {us : List Value} (r : Vals xs us) : ∀ is : List Nat, Vals (sel is xs) (sel is us)
  | [] => .nil
  | i :: is => by
    unfold sel
    rw [List.filterMap_cons, List.filterMap_cons]
    cases q : xs[i]? with
    | none =>
      rw [Vals.none_of r q]
      exact sel_vals r is
    | some x =>
      obtain ⟨y, h1, h2⟩ := r.get q
      rw [h1]
      exact .cons h2 (sel_vals r is)
structure SK (X : Cx) (kws : List Keyword) (f : AF) : Prop where
  out : PK X kws (tA X.K f)
theorem PK.of {t t' : TA} (h : PK X kws t) (i : ∀ σ H Q, t' σ H Q → t σ H Q) : PK X kws t' := fun pos pins s σ H Q I q => h pos pins s σ H Q I (i σ H Q q)
theorem sk_nil : SK X [] aNil := ⟨PK.of pk_nil fun σ H Q q => by
  obtain ⟨ρ, σa, h, v, h', rh, rs, e, k⟩ := q
  cases e
  exact k ρ _ H Ext.refl rh .nil⟩
theorem sk_cons {e : Expr} {nm : Option Str} {kpos : Pos} {f : EF} {g : AF} (ha : SE X e f) (hr : SK X kws g) : SK X (⟨nm, e, kpos⟩ :: kws) (aCons f g) := ⟨PK.of (pk_cons ha.out hr.out) fun σ H Q q => by
  obtain ⟨ρ, σa, h, v, h', rh, rs, e, k⟩ := q
  obtain ⟨x, h1, e1, e⟩ := bind_eq e
  obtain ⟨xs, h2, e2, e⟩ := bind_eq e
  cases e
  exact ⟨ρ, σa, h, x, h1, rh, rs, e1, fun ρ1 x' H1 p1 rh1 rx => ⟨ρ1, σa, h1, xs, h', rh1, rs.up p1, e2, fun ρ2 ys H2 p2 rh2 ry => k ρ2 _ H2 (p1.trans p2) rh2 (.cons (rx.up p2) ry)⟩⟩⟩
def eAppK (F : BF) (is : List Nat) (a b : Nat) (f g : AF) : EF := fun σ h => (f σ h).bind fun xs h1 => (g σ h1).bind fun ys h2 => if xs.length = a ∧ ys.length = b then F (sel is (xs ++ ys)) h2 else .bad
theorem run_k {fd : FuncData} {a : Addr} {pins : List (Addr × Obj)} {σ : L2.St} {H : Hp} {s : Shared} {Q : VK} {us ws : List Value} {vs zs : List V} {ks : List Str} {is : List Nat} (ok : FnOk X.prog X.w X.K X.mg X.base CX0 k a fd ps (spF X.K ps.length F)) (hr : Room k X.A)
    (hb : BindsTo s fd ⟨us, ks.zip ws⟩ (ps.zip (sel is (us ++ ws)))) (I : Inv X pins σ H s) (r : Vals vs us) (rz : Vals zs ws) (h : spF X.K ps.length F (sel is (vs ++ zs)) H Q E0) : wpAny (model X.prog X.w) X.A (call (.ref a) us (ks.zip ws)) (EP X pins σ Q) X.xe s := by
  have r2 := sel_vals (r.append rz) is
  refine wpAny_call (codeAny_mono (ok.run X.A X.stack s H ⟨us, ks.zip ws⟩ _ _ Q E0 hr I.env0 hb r2 h) fun r s' hq => ?_)
  cases r with
  | error e => exact hq.elim
  | ok fl =>
    cases fl with
    | ret u => exact I.after hq
    | next => exact False.elim hq
    | brk => exact False.elim hq
    | cont => exact False.elim hq
theorem se_callK0 (is : List Nat) (b : Nat) (ks : List Str) (HF : HasFn X.prog X.w X.K X.mg X.base k x st dV ps F) (hr : Room k X.A) (hkw : SK X kws g)
    (hb : ∀ (kV doc pm : Value) (an : Option Addr) (cdv ct : Value) (ws : List Value), ws.length = b → ∀ s : Shared, X.K.In s.heap → BindsTo s (PySem.W.fnOf x x (defArgs st) (defBody st) (defScope st) dV kV doc pm an cdv ct) ⟨[], ks.zip ws⟩ (ps.zip (sel is ws)))
    (hg : Gl X x := by rfl) (hall : (backToKw pos (keywordEach kws X.env)).all (·.1.isSome) = true := by rfl) (hks : (backToKw pos (keywordEach kws X.env)).filterMap (·.1) = ks := by rfl)
    (hdb : (x == ("__debug__" : Str)) = false := by decide +kernel)
    (hpl : ((backTo pos (starEach [] X.env)).any (·.1) || (backToKw pos (keywordEach kws X.env)).any (·.1.isNone)) = false := by rfl) :
    SE X (.Call (.Name x p) [] kws pos) (eAppK F is 0 b aNil g) := by
  obtain ⟨a', fd, hm, FA, ok⟩ := HF.ex
  obtain ⟨oc, od, kV, doc, pm, an, cdv, ct, osl, rfl, lk, hcd⟩ := FA.ex
  refine ⟨fun pins s σ H Q I q => ?_⟩
  obtain ⟨ρ, σa, h, v, h', rh, rs, e, k⟩ := q
  obtain ⟨xs, h1, e1, e⟩ := bind_eq e
  cases e1
  obtain ⟨ys, h2, e2, e3⟩ := bind_eq e
  split at e3
  · rename_i c
    refine wpAny_Call_Name_kw (ld_glob I hg hm ?_ hdb)
    refine PySem.W.callWith_KW0 (h₀ := X.base) I.ok.mod.kin FA.kp hall ?_ hpl
    refine thn (hkw.out pos pins s σ H (fun zs H2 => ∃ ρ2, Ext X.K ρ H ρ2 H2 ∧ RH X.K ρ2 h2 H2 ∧ RVs X.K ρ2 H2 ys zs) I ⟨ρ, σa, h, ys, h2, rh, rs, e2, fun ρ2 vs H2 p2 rh2 ry => ⟨ρ2, p2, rh2, ry⟩⟩) fun ws s2 ⟨zs, H2, I2, rz, ρ2, p2, rh2, ry⟩ => ⟨I2.kIn, ?_⟩
    rw [hks]
    refine run_k (us := []) (vs := []) ok hr (hb kV doc pm an cdv ct ws ?_ s2 I2.kIn) I2 .nil rz ⟨ρ2, _, h2, v, h', rh2, sel_rel ry is, HF.len _ _ _ _ e3, e3, fun ρ3 z H3 p3 rh3 rz3 => k ρ3 z H3 (p2.trans p3) rh3 rz3⟩
    rw [← rz.length, ← ry.length]; exact c.2
  · cases e3
end
end EV
namespace EV
open PySem PySem.Spec PyProof.Rows L2
def mInt (i : Nat) : Fr → Nat := fun σ => match σ[i]? with | some (some (.int z)) => z.natAbs + 1 | _ => 0
theorem spF_law {K : PySem.W.Frag} {H : Hp} {a : Addr} {ns : List Int} {F : BF} (hl : ns.length ≤ 63) (hO : Only H) (hS : SqL K H a (ns.map V.int)) (hF : ∃ h', F [.fz (ns.map D.int)] [] = .ok (.bl true) h') : spF K 1 F [.ref a] H (fun v _ => v = .bl true) fun _ _ _ => False := by
  obtain ⟨h', e⟩ := hF
  have hz : SqF K H a (ns.map V.int) := by
    rcases hS with (h | ⟨o, h⟩) | h
    · rcases hO a with q | ⟨o, xs, q⟩
      · rw [h] at q; cases q
      · rw [h] at q; cases q
    · exact .inl ⟨o, h⟩
    · exact .inr h
  exact ⟨[], [.fz (ns.map D.int)], [], .bl true, h', RH.nil, .cons (.fz hz (RVs.ints ns)) .nil, rfl, e, fun ρ' y H' _ _ r => by cases r; rfl⟩
end EV
set_option Elab.async false
set_option linter.all false
set_option autoImplicit false
set_option maxRecDepth 100000
namespace EV
open PySem PySem.Spec PyProof.Rows L2
section
variable {X : Cx}
end
section
variable {prog : Program} {w : World} {A : Around} {E : Value → Shared → Prop} {s : Shared}
theorem draw_list {it t : Addr} {items : Array Value} (hne : t ≠ it) : ∀ (n i : Nat) (s : Shared) (Q : List Value → Shared → Prop), s.heap.IsListIter it t i → s.heap.IsList t items → i + n ≤ items.size →
    (∀ h', h'.IsListIter it t (i + n) → Heap.SameBut it s.heap h' → Q ((items.toList.drop i).take n) { s with heap := h' }) → wpAny (model prog w) A (draw (.ref it) n) Q E s
  | 0, i, s, Q, hit, _, _, hQ => by
    show wpAny _ _ (pure []) Q E s
    exact wpAny_pure (by simpa using hQ s.heap hit (Heap.SameBut.refl ..))
  | n + 1, i, s, Q, hit, ht, hle, hQ => by
    have hlt : i < items.size := by omega
    show wpAny _ _ (pyNext (.ref it) >>= _) Q E s
    refine wpAny_bind (wpAny_pyNext_list_item hit ht (x := items[i]) (by simp [hlt]) fun h₁ hit₁ hs₁ => ?_)
    refine wpAny_bind (wpAny_holding (draw_list hne n (i + 1) _ _ hit₁ (ht.extBut hs₁.extBut hne) (by omega) fun h₂ hit₂ hs₂ => wpAny_pure ?_))
    have hd : items.toList.drop i = items[i] :: items.toList.drop (i + 1) := by simp [List.drop_eq_getElem_cons, hlt]
    have := hQ h₂ (by rw [show i + (n + 1) = i + 1 + n by omega]; exact hit₂) (hs₁.trans hs₂)
    rw [hd, List.take_succ_cons] at this
    exact this
theorem unpackItems_list {t : Addr} {items : Array Value} {Q : List Value → Shared → Prop} (hh : A.handled = none) (ht : s.heap.IsList t items)
    (hQ : ∀ h', Heap.ExtBut s.heap.objs.size s.heap h' → Q items.toList { s with heap := h' }) : wpAny (model prog w) A (unpackItems (.ref t) items.size none) Q E s := by
  have hlt : t ≠ s.heap.objs.size := by obtain ⟨o, ho, _⟩ := ht; exact Nat.ne_of_lt (Heap.lt_size ho)
  unfold unpackItems
  refine wpAny_bind ?_
  · unfold notIterableAtAll
    refine wpAny_bind (wpAny_specialOf ht.typeIs slot_list_iter.lookup ?_)
    refine wpAny_pure ?_
    simp only [Bool.false_eq_true, if_false]
    refine wpAny_bind (wpAny_holding (wpAny_pyIter_list ht ?_))
    refine wpAny_bind (wpAny_holding (draw_list hlt items.size 0 _ _ ⟨_, Heap.get?_push_size _ rfl, rfl, rfl⟩ (ht.push _) (by omega) fun h₁ hit₁ hs₁ => ?_))
    have hall : List.take items.size (List.drop 0 items.toList) = items.toList := by
      rw [List.drop_zero]; exact List.take_of_length_le (by simp)
    rw [hall]
    rw [if_neg (by simp)]
    have ht₁ : h₁.IsList t items := (ht.push _).extBut hs₁.extBut hlt
    refine wpAny_bind (wpAny_holding (wpAny_pyNext_list_end hh hit₁ ht₁ (by simp) fun h₂ he₂ => ?_))
    simp only [Option.isSome_none, Bool.false_eq_true, if_false]
    refine wpAny_pure (hQ h₂ fun b o hb e => he₂ b o hb (hs₁.extBut b o hb (Heap.get?_push_of_some _ e)))
theorem assign_Tuple_list {env : Env} {elts : List Expr} {x1} {pos : Pos} {t : Addr} {items : Array Value} {Q : Unit → Shared → Prop} (hh : A.handled = none) (ht : s.heap.IsList t items)
    (hn : (assignEach elts env).length = items.size) (hstar : (assignEach elts env).findIdx? (·.1) = none)
    (h : ∀ h', Heap.ExtBut s.heap.objs.size s.heap h' → wpAny (model prog w) A (assignInOrder ((assignEach elts env).map (·.2)) items.toList) Q E { s with heap := h' }) :
    wpAny (model prog w) A (assign (.Tuple elts x1 pos) env (.ref t)) Q E s := by
  rw [assign_Tuple]
  refine wpAny_bind (wpAny_standAt ?_)
  unfold unpack
  rw [hn, hstar]
  exact wpAny_bind (wpAny_holding (unpackItems_list hh ht h))
end
section
variable {X : Cx}
def gTupL (K : PySem.W.Frag) (n : Nat) (t : TGs) : TG := fun v σ H Q => ∃ a xs, v = .ref a ∧ SqL K H a xs ∧ xs.length = n ∧ t xs σ H Q
theorem pg_tupL {es : List Expr} {k : Nat} {t : TGs} {n : Nat} {pos : Pos} (hc : X.calm = true) (h : PGs X es t)
    (hn : (assignEach es X.env).length = n := by rfl) (hst : (assignEach es X.env).findIdx? (·.1) = none := by rfl) : PG X (.Tuple es k pos) (gTupL X.K n t) := by
  intro pins s σ H v u Q I r hw
  obtain ⟨a, xs, e1, hq, hl, hw⟩ := hw
  subst e1
  cases r
  obtain ⟨its, rv, ht, hz⟩ := I.list hq
  refine assign_Tuple_list (I.ok.hd hc) ht.isList (by simp [hn, ← hl, rv.length]) hst fun h' hx => ?_
  have I1 : Inv X pins σ H { s with heap := h' } := I.kept (t' := s.toks) fun b o e => hx b o (Nat.ne_of_lt (Heap.lt_size e)) e
  exact h pins _ σ H xs _ Q I1 (by simpa using rv) hw
def gSeq (n : Nat) (g : GFs) : GF := fun d σ h => match seqOf d h with | some xs => if xs.length = n then g xs σ h else .bad | none => .bad
theorem sg_seq {es : List Expr} {k : Nat} {g : GFs} {n : Nat} {vs : List Nat} {pos : Pos} (hc : X.calm = true) (h : SGs X es vs g) (hn : (assignEach es X.env).length = n := by rfl) (hst : (assignEach es X.env).findIdx? (·.1) = none := by rfl) : SG X (.Tuple es k pos) vs (gSeq n g) :=
  ⟨fun pins s σ H v u Q I r q => by
  obtain ⟨ρ, σa, h0, d, σ', h', rh, rs, rv, e, kk⟩ := q
  unfold gSeq at e
  split at e
  · rename_i xs qs
    split at e
    · rename_i hl
      obtain ⟨p, ys, e1, hs, rr⟩ := seq_rel rh qs rv
      rcases hs with hs | hs
      · exact pg_tupL hc h.out hn hst pins s σ H v u Q I r ⟨p, ys, e1, hs, by rw [← rr.length]; exact hl, ρ, σa, h0, xs, σ', h', rh, rs, rr, e, kk⟩
      · exact pg_tup hc h.out hn hst pins s σ H v u Q I r ⟨p, ys, e1, hs, by rw [← rr.length]; exact hl, ρ, σa, h0, xs, σ', h', rh, rs, rr, e, kk⟩
    · cases e
  · cases e⟩
end
end EV
set_option Elab.async false
set_option linter.all false
set_option autoImplicit false
set_option maxRecDepth 100000
namespace EV
open PySem PySem.Spec PyProof.Rows L2
theorem ObjOk.there {P : Program} {w : World} {H : Hp} {h : Heap} {a : Addr} {o : HO} (x : ObjOk P w H h a o) : ∃ ob, h.get? a = some ob := by
  cases o with
  | lst xs => obtain ⟨_, _, _, _, e⟩ := x; exact ⟨_, e⟩
  | tup xs => obtain ⟨_, _, _, ⟨ob, e, _⟩, _⟩ := x; exact ⟨_, e⟩
  | dK kvs => obtain ⟨_, _, _, _, o, _, _, e, _⟩ := x; exact ⟨_, e⟩
  | dT kvs => obtain ⟨_, _, _, _, o, _, _, e, _⟩ := x; exact ⟨_, e⟩
  | set S n => obtain ⟨o, _, _, _, e, _⟩ := x; exact ⟨_, e⟩
  | ins C dx fs => obtain ⟨_, _, _, e, _⟩ := x; exact ⟨_, e⟩
  | own y => exact x
  | xd fs => obtain ⟨_, ⟨o, _, _, e, _⟩, _⟩ := x; exact ⟨_, e⟩
  | rng lo hi => obtain ⟨_, _, _, e⟩ := x; exact ⟨_, e⟩
  | frz ob u => obtain ⟨e, _⟩ := x; exact ⟨_, e⟩
  | tbl ps => exact ⟨_, x⟩
  | met f y => exact ⟨_, x⟩
  | ext φ => exact x.2.1
structure Away (P : Program) (w : World) (fs : List Addr) (H : Hp) (hs : Heap) (H' : Hp) (e T : Addr) (h : Heap) : Prop where
  un : Un fs [] H H' hs h
  hok : HOk P w H' h
  e0 : hs.get? e = none
  T0 : hs.get? T = none
  He : H' e = none
  HT : H' T = none
def Tr (e T : Addr) (cls : Value) (h : Heap) : Prop :=
  ∃ a0 oe vs oT ts, h.get? e = some oe ∧ oe.cls = cls ∧ vs[0]? = some a0 ∧ oe.data = .fields vs ∧ vs[1]? = some (.ref T) ∧ T ≠ e ∧ h.get? T = some oT ∧ oT.data = .fields ts ∧ ts[3]? = some .none
section
variable {P : Program} {w : World} {fs as fr : List Addr} {H H' : Hp} {hs h h' : Heap} {e T T' : Addr} {cls : Value} {l : List Env} {B : Heap}
theorem step_away (un : Un fs [] H H' hs h) (hok : HOk P w H' h) (keep : ∀ b o, h.get? b = some o → b ∉ as → b ∉ fr → h'.get? b = some o)
    (slots : ∀ b o, b ∈ fr → h.get? b = some o → ∃ sl, h'.get? b = some { o with slots := sl }) (has : ∀ b ∈ as, hs.get? b = none ∧ H' b = none) (hfr : ∀ b ∈ fr, (b ∈ fs ∨ hs.get? b = none) ∧ H' b = none) :
    Un fs [] H H' hs h' ∧ HOk P w H' h' := by
  have nas : ∀ b o, hs.get? b = some o → b ∉ as := fun b o q z => by rw [(has b z).1] at q; cases q
  have tk : ∀ b u, H' b = some u → b ∉ as ∧ b ∉ fr := fun b u q => ⟨fun z => by (rw [(has b z).2] at q; cases q), fun z => by (rw [(hfr b z).2] at q; cases q)⟩
  refine ⟨⟨fun b o q n hb hx => ?_, fun b o q n hb hx => ?_, un.free, fun b o q hx => ?_, un.tups, un.frzs, un.tbls⟩, fun a o q => ?_⟩
  · refine keep b o (un.keep b o q n hb hx) (nas b o q) fun z => ?_
    rcases (hfr b z).1 with y | y
    · exact hb y
    · rw [y] at q; cases q
  · obtain ⟨sl, q1⟩ := un.slot b o q n hb hx
    by_cases z : b ∈ fr
    · obtain ⟨sl2, q2⟩ := slots b _ z q1
      exact ⟨sl2, q2⟩
    · exact ⟨sl, keep b _ q1 (nas b o q) z⟩
  · obtain ⟨o', q1⟩ := un.there b o q hx
    by_cases z : b ∈ fr
    · obtain ⟨sl2, q2⟩ := slots b _ z q1
      exact ⟨_, q2⟩
    · exact ⟨o', keep b _ q1 (nas b o q) z⟩
  · refine (hok a o q).stay (fun b u hb q1 => ?_) (fun _ q => q) fun _ _ q => q
    rcases hb with rfl | hb
    · exact keep b u q1 (tk b o q).1 (tk b o q).2
    · exact keep b u q1 (tk b _ hb).1 (tk b _ hb).2
theorem entry_new (un : Un fs [] H H' hs h) (hok : HOk P w H' h) (has : ∀ b ∈ as, hs.get? b = none ∧ H' b = none) (hT : ∀ o, h.get? T' = some o → T' ∈ as) : hs.get? T' = none ∧ H' T' = none := by
  constructor
  · cases q : hs.get? T' with
    | none => rfl
    | some o =>
      obtain ⟨o', q'⟩ := un.there _ o q (by simp)
      have := (has _ (hT o' q')).1
      rw [q] at this; cases this
  · cases q : H' T' with
    | none => rfl
    | some o =>
      obtain ⟨o', q'⟩ := ObjOk.there (hok _ _ q)
      have := (has _ (hT o' q')).2
      rw [q] at this; cases this
theorem tr_of {a0 : Value} (x : h.TracedW B e cls a0) : ∃ T, Tr e T cls h ∧ B.get? T = none ∧ ∃ oT ts, h.get? T = some oT ∧ oT.data = .fields ts := by
  obtain ⟨oe, vs, T, oT, ts, q1, ⟨q2, q3⟩, q4, q5, qb, q6, q7, q8, q9⟩ := x
  exact ⟨T, ⟨a0, oe, vs, oT, ts, q1, q2, q3, q4, q5, q6, q7, q8, q9⟩, qb, oT, ts, q7, q8⟩
theorem Away.step {a0 : Value} (A : Away P w fs H hs H' e T h) (ff : h.FunFrames B l) (st : (PySem.W.hideAll h (e :: T :: frs l)).StaysIn h') (us : h.UpToSlots h') (tr : h'.TracedW (PySem.W.hideAll h (e :: T :: frs l)) e cls a0)
    (hfr : ∀ b ∈ frs l, (b ∈ fs ∨ hs.get? b = none) ∧ H' b = none) : ∃ T', Away P w fs H hs H' e T' h' ∧ Tr e T' cls h' := by
  have has : ∀ b ∈ [e, T], hs.get? b = none ∧ H' b = none := fun b hb => by
    rcases List.mem_cons.mp hb with rfl | hb
    · exact ⟨A.e0, A.He⟩
    · have : b = T := by simpa using hb
      subst this; exact ⟨A.T0, A.HT⟩
  have nf : ∀ b, b ∈ frs l → ∃ o, h.get? b = some o ∧ ∀ vs, o.data ≠ .fields vs := fun b hb => (ff.mem hb).2
  obtain ⟨T', t', hT', oT, ts, q7, q8⟩ := tr_of tr
  have hTf : T' ∉ frs l := fun z => by
    obtain ⟨o, ho, hd⟩ := nf _ z
    obtain ⟨sl, hs'⟩ := us _ o ho hd
    rw [hs'] at q7
    have : oT.data = o.data := by cases q7; rfl
    exact hd ts (this ▸ q8)
  obtain ⟨u1, u2⟩ := step_away (as := [e, T]) (fr := frs l) A.un A.hok (fun b o q n1 n2 => st b o (PySem.W.hideAll_get _ q (by
    intro z
    rcases List.mem_cons.mp z with z | z
    · exact n1 (by simp [z])
    · rcases List.mem_cons.mp z with z | z
      · exact n1 (by simp [z])
      · exact n2 z))) (fun b o hb q => by
        obtain ⟨o', ho', hd⟩ := nf b hb
        rw [ho'] at q; cases q
        exact us b o ho' hd) has hfr
  obtain ⟨n1, n2⟩ := entry_new (T' := T') (as := [e, T]) A.un A.hok has fun o q => by
    refine Classical.byContradiction fun z => ?_
    have : (PySem.W.hideAll h (e :: T :: frs l)).get? T' = some o := PySem.W.hideAll_get _ q (by
      intro y
      rcases List.mem_cons.mp y with y | y
      · exact z (by simp [y])
      · rcases List.mem_cons.mp y with y | y
        · exact z (by simp [y])
        · exact hTf y)
    rw [hT'] at this; cases this
  exact ⟨T', ⟨u1, u2, A.e0, n1, A.He, n2⟩, t'⟩
end
def CXD (P : Program) (w : World) : CXT := fun outer H s E ev s' => ∃ e T cls H', ev = .ref e ∧ s'.os = s.os ∧ AllBare s'.gens ∧ Away P w (frs outer) H s.heap H' e T s'.heap ∧ Tr e T cls s'.heap ∧ E cls none H'
structure Flown (X : Cx) (pins : List (Addr × Obj)) (σ : L2.St) (H' : Hp) (s' : Shared) (e T : Addr) (cls : Value) : Prop where
  ex : ∃ H s, Inv X pins σ H s ∧ s'.os = s.os ∧ AllBare s'.gens ∧ Away X.prog X.w (frs X.stack) H s.heap H' e T s'.heap ∧ Tr e T cls s'.heap
section
variable {P : Program} {w : World} {K : PySem.W.Frag} {mg : Str → Option Value} {base : Heap} {N : List Str} {qual : Str} {scope : Scope} {f : Addr} {cd : Value} {A : Around} {outer : List Env} {s0 : Shared} {H0 : Hp} {E : XK}
end
end EV
set_option Elab.async false
set_option linter.all false
set_option autoImplicit false
set_option maxRecDepth 100000
namespace EV
open PySem PySem.Spec PyProof.Rows L2
structure XCls (K : PySem.W.Frag) (mg : Str → Option Value) (n : Str) : Prop where
  ex : ∃ (C : Addr) (B newId initId : String) (bmB : List Value), mg n = some (.ref C) ∧ PySem.W.excIn K C bmB newId = true ∧ ExcBaseFacts B newId initId bmB
structure XHit (K : PySem.W.Frag) (mg : Str → Option Value) (n c : Str) : Prop where
  ex : ∃ u v, mg n = some u ∧ mg c = some v ∧ PySem.W.exmOne K u v = some true
abbrev XW2 := List (Addr × Obj) → L2.St → Value → Hp → Prop
def XPost (X : Cx) (W : XW2) (ρ : List Addr) (H : Hp) (h' : AH) (x : Ex) (pins : List (Addr × Obj)) (σ : L2.St) : Prop := ∀ ρ' H' cls, Ext X.K ρ H ρ' H' → RH X.K ρ' h' H' → X.mg x.cls = some cls → W pins σ cls H'
structure SX (X : Cx) (W : XW2) (e : Expr) (f : EF) : Prop where
  out : ∀ (pins : List (Addr × Obj)) (s : Shared) (σ : L2.St) (H : Hp) (Q : VK), Inv X pins σ H s → (∃ ρ σa h x h', RH X.K ρ h H ∧ RS X.K ρ H σa σ ∧ f σa h = .ex x h' ∧ XPost X W ρ H h' x pins σ) → wpAny (model X.prog X.w) X.A (eval e X.env) (EP X pins σ Q) X.xe s
structure SXA (X : Cx) (W : XW2) (es : List Expr) (f : AF) : Prop where
  out : ∀ (pos : Pos) (pins : List (Addr × Obj)) (s : Shared) (σ : L2.St) (H : Hp) (Q : List V → Hp → Prop), Inv X pins σ H s → (∃ ρ σa h x h', RH X.K ρ h H ∧ RS X.K ρ H σa σ ∧ f σa h = .ex x h' ∧ XPost X W ρ H h' x pins σ) → wpAny (model X.prog X.w) X.A (spliced (backTo pos (starEach es X.env))) (AP X pins σ Q) X.xe s
structure SXS (X : Cx) (W : XW2) (st : Stmt) (f : SF) : Prop where
  out : ∀ (pins : List (Addr × Obj)) (s : Shared) (σ : L2.St) (H : Hp) (D : Ends), Inv X pins σ H s → (∃ ρ σa h x h', RH X.K ρ h H ∧ RS X.K ρ H σa σ ∧ f σa h = .ex x h' ∧ XPost X W ρ H h' x pins σ) → wpAny (model X.prog X.w) X.A (exec st X.env) (SP X pins D) X.xe s
structure SXSs (X : Cx) (W : XW2) (st : List Stmt) (f : SF) : Prop where
  out : ∀ (pins : List (Addr × Obj)) (s : Shared) (σ : L2.St) (H : Hp) (D : Ends), Inv X pins σ H s → (∃ ρ σa h x h', RH X.K ρ h H ∧ RS X.K ρ H σa σ ∧ f σa h = .ex x h' ∧ XPost X W ρ H h' x pins σ) → wpAny (model X.prog X.w) X.A (execs st X.env) (SP X pins D) X.xe s
section
variable {X : Cx} {W : XW2}
end
end EV
set_option Elab.async false
set_option linter.all false
set_option autoImplicit false
set_option maxRecDepth 100000
namespace EV
open PySem PySem.Spec PyProof.Rows L2
def spX (K : PySem.W.Frag) (mg : Str → Option Value) (n : Nat) (F : BF) : Sp := fun vs H _ E => ∃ ρ ds h x h', RH K ρ h H ∧ RVs K ρ H ds vs ∧ ds.length = n ∧ F ds h = .ex x h' ∧ ∀ ρ' H' cls, Ext K ρ H ρ' H' → RH K ρ' h' H' → mg x.cls = some cls → E cls none H'
section
variable {P : Program} {w : World} {K : PySem.W.Frag} {mg : Str → Option Value} {base : Heap}
structure HasFx (P : Program) (w : World) (K : PySem.W.Frag) (mg : Str → Option Value) (base : Heap) (k : Nat) (x : Str) (st : Stmt) (dV : Value) (ps : List Str) (F : BF) : Prop where
  ex : ∃ (f : Addr) (fd : FuncData), mg x = some (.ref f) ∧ FunA K x x st dV f fd ∧ FnOk P w K mg base (CXD P w) k f fd ps (spX K mg ps.length F)
  len : ∀ ds h y h', F ds h = .ex y h' → ds.length = ps.length
theorem HasFx.mono {j k : Nat} {x : Str} {st : Stmt} {dV : Value} {ps : List Str} {F : BF} (h : HasFx P w K mg base j x st dV ps F) (l : j ≤ k) : HasFx P w K mg base k x st dV ps F := by
  obtain ⟨f, fd, a, b, c⟩ := h.ex
  exact ⟨⟨f, fd, a, b, c.mono l⟩, h.len⟩
end
section
variable {X : Cx} {W : XW2} {k : Nat} {x : Str} {st : Stmt} {dV : Value} {ps : List Str} {F G : BF} {e : Expr} {es : List Expr} {f : AF} {p pos : Pos}
end
theorem PS.nox {X : Cx} {st : Stmt} {t : TS} (h : PS X.nox st t) : PS X st t := fun pins s σ H D I hw =>
  wpAny_mono (h pins s σ H D (I.wish _) hw) (fun _ _ q => q.unwish) fun _ _ z => False.elim z
theorem SS.nox {X : Cx} {st : Stmt} {f : SF} (h : SS X.nox st f) : SS X st f := ⟨PS.nox h.out⟩
theorem SSs.nox {X : Cx} {st : List Stmt} {f : SF} (h : SSs X.nox st f) : SSs X st f := ⟨PSs.nox h.out⟩
theorem PA.nox {X : Cx} {es : List Expr} {t : TA} (h : PA X.nox es t) : PA X es t := fun pos pins s σ H Q I hw =>
  wpAny_mono (h pos pins s σ H Q (I.wish _) hw) (fun _ _ ⟨vs, H', I', r, q⟩ => ⟨vs, H', I'.unwish, r, q⟩) fun _ _ z => False.elim z
theorem SA.nox {X : Cx} {es : List Expr} {f : AF} (h : SA X.nox es f) : SA X es f := ⟨PA.nox h.out⟩
theorem SE.nox {X : Cx} {e : Expr} {f : EF} (h : SE X.nox e f) : SE X e f := ⟨PE.nox h.out⟩
theorem ST.nox {X : Cx} {e : Expr} {f : TF} (h : ST X.nox e f) : ST X e f := ⟨PT.nox h.out⟩
section
variable {X : Cx} {A : Around} {E : Value → Shared → Prop} {pins : List (Addr × Obj)} {σ : L2.St} {H : Hp} {s : Shared}
end
section
variable {X : Cx} {body suite : List Stmt} {b0 : Stmt} {c : Str} {cl : List Str} {f g k : SF} {np hpos pos : Pos}
end
end EV
set_option Elab.async false
set_option linter.all false
set_option autoImplicit false
set_option maxRecDepth 100000
namespace EV
open PySem PySem.Spec PyProof.Rows L2
section
variable {X : Cx}
theorem cat_tup0 {prog : Program} {w : World} {A : Around} {E : Value → Shared → Prop} {s : Shared} {t b : Addr} {ws : List Value} {Q : Value → Shared → Prop} (ht : IsTup s.heap t #[]) (hb : IsTup s.heap b ws.toArray) (h1 : Q (.ref b) s) :
    wpAny (model prog w) A (binaryOp .Add (.ref t) (.ref b)) Q E s := by
  obtain ⟨⟨cls, dd, data, sl⟩, ho, hc, n, hd⟩ := id ht
  obtain ⟨⟨cls2, dd2, data2, sl2⟩, ho2, hc2, n2, hd2⟩ := id hb
  simp only at hc hd hc2 hd2
  subst hc hd hc2 hd2
  exact concat_meets ⟨_, ho, rfl⟩ ⟨_, ho2, rfl⟩ noFill_tuple_add seq_tuple_add PySem.F.slot_tuple_add PySem.F.entry_tuple_add (PySem.F.args_tuple_add_2 _ _) (tuple_addW0 t b #[] ws.toArray n n2 dd dd2 sl sl2 rfl) ⟨ho, ho2, h1⟩
def rCatE (K : PySem.W.Frag) : R2 := fun x y H Q => ∃ a b xs ys, x = .ref a ∧ y = .ref b ∧ SqT K H a xs ∧ SqT K H b ys ∧ xs.length + ys.length ≤ sizeLine ∧
  (xs = [] → Q (.ref b) H) ∧ (xs ≠ [] → ys = [] → Q (.ref a) H) ∧ (xs ≠ [] → ys ≠ [] → ∀ p, H p = none → Q (.ref p) (upd H p (.tup (xs ++ ys))))
theorem op_catE : OpR X (binaryOp .Add) (rCatE X.K) := by
  intro pins s σ H x y v u Q I rx ry h
  obtain ⟨a, b, xs, ys, e1, e2, ha, hb, hz, q0, q1, q2⟩ := h
  by_cases hx : xs = []
  · subst e1 e2 hx
    cases rx
    cases ry
    obtain ⟨its, r1, p1, _⟩ := I.tuple ha
    obtain ⟨its2, r2, p2, _⟩ := I.tuple hb
    cases r1
    exact cat_tup0 p1 p2 ⟨.ref b, H, I, rfl, q0 rfl⟩
  · exact op_catT pins s σ H x y v u Q I rx ry ⟨a, b, xs, ys, e1, e2, ha, hb, hx, hz, q1 hx, q2 hx⟩
def oCatT : Op2 := fun x y h => match x, y with
  | .tup xs, .tup ys => if xs.length + ys.length ≤ sizeLine then .ok (.tup (xs ++ ys)) h else .bad
  | _, _ => .bad
theorem sp_catE {K : PySem.W.Frag} : OpS K oCatT (rCatE K) := by
  intro ρ h H x y x' y' v h' Q rh rx ry e k
  unfold oCatT at e
  split at e
  · split at e
    · rename_i hz
      cases e
      cases rx with
      | @tup aa _ us ha ra =>
        cases ry with
        | @tup bb _ ws hb rb =>
          have l1 := ra.length
          have l2 := rb.length
          refine ⟨_, _, _, _, rfl, rfl, ha, hb, by omega, fun z => ?_, fun _ z => ?_, fun z1 z2 p hp => ?_⟩
          · subst z
            cases ra
            exact k ρ _ H Ext.refl rh (.tup hb rb)
          · subst z
            cases rb
            rw [List.append_nil] at k
            exact k ρ _ H Ext.refl rh (.tup ha ra)
          · have p1 : Ext K ρ H ρ (upd H p (.tup (us ++ ws))) := Ext.upd (.inl hp)
            exact k ρ _ _ p1 (rh.laid hp) (.tup (.inl (.inl upd_same)) ((ra.app rb).up p1))
    · cases e
  · cases e
def oCatL : Op2 := fun x y h => match x, y with
  | .ref n, .ref m => (match h[n]?, h[m]? with
    | some (.lst xs), some (.lst ys) => if xs.length + ys.length ≤ sizeLine then newL (xs ++ ys) h else .bad
    | _, _ => .bad)
  | _, _ => .bad
theorem sp_cat {K : PySem.W.Frag} : OpS K oCatL rCat := by
  intro ρ h H x y x' y' v h' Q rh rx ry e k
  unfold oCatL at e
  split at e
  · split at e
    · rename_i q1 q2
      split at e
      · rename_i hz
        cases e
        cases rx with
        | ref h1 =>
          cases ry with
          | ref h2 =>
            obtain ⟨us, u1, r1⟩ := rh.ob _ _ _ q1 h1
            obtain ⟨ws, u2, r2⟩ := rh.ob _ _ _ q2 h2
            refine ⟨_, _, us, ws, rfl, rfl, u1, u2, by rw [← r1.length, ← r2.length]; exact hz, fun p hp => ?_⟩
            obtain ⟨a1, a2, a3⟩ := newL_ok rh (r1.app r2) hp
            exact k _ _ _ a1 a2 a3
      · cases e
    · cases e
  · cases e
def oAddA : Op2 := orOp oAdd (orOp oCatT oCatL)
theorem se_addA {a b : Expr} {f g : EF} {pos : Pos} (ha : SE X a f) (hb : SE X b g) : SE X (.BinOp a .Add b pos) (eBin oAddA f g) :=
  se_bin (OpR.or op_add (OpR.or op_catE op_cat)) (OpS.or (ops_I0 fun _ _ _ _ => .int _) (OpS.or sp_catE sp_cat orOp_hd) orOp_hd) ha hb
end
section
variable {X : Cx}
theorem noFill_tup : fillsNumberSlot (.type "tuple") "mul" = pure false :=
  PySem.fillsNumberSlot_seq (id := "tuple.__mul__") (r := some (.builtin "tuple.__rmul__")) PySem.F.slot_tuple_mul.lookup (by decide +kernel) PySem.F.slot_tuple_rmul.lookup (by decide +kernel)
theorem repeat_tup : seqRepeat? (.type "tuple") = pure (some (.builtin "tuple.__mul__")) := by
  unfold seqRepeat?
  rw [PySem.seqSlot_of (T := "tuple") (name := "__mul__") (id := "tuple.__mul__") PySem.F.slot_tuple_mul.lookup (by decide +kernel), PySem.seqSlot_of (T := "tuple") (name := "__rmul__") (id := "tuple.__rmul__") PySem.F.slot_tuple_rmul.lookup (by decide +kernel)]
  rfl
theorem rmul_tup (a : Int) (t : Tok) (l : Addr) (items : Array Value) (n : Nat) (dd : Option Addr) (sl : Array (Option Value)) :
    Meets (Builtin.«int.__rmul__» ⟨[.int a t, .ref l], []⟩) (fun _ R s => s.heap.get? l = some { cls := .type "tuple", dict := dd, data := .seq items n, slots := sl } ∧ R (.ok (.ret Value.notImplemented)) s) :=
  .of_wp fun prog w A R s h => by obtain ⟨hp, g, d, tk, os⟩ := s; obtain ⟨hl, h⟩ := h; wp_walk; exact ⟨_, rfl, h⟩
theorem tup_mul1 (l : Addr) (items : Array Value) (n : Nat) (dd : Option Addr) (sl : Array (Option Value)) (u : Tok) :
    Meets (Builtin.«tuple.__mul__» ⟨[.ref l, .int 1 u], []⟩) (fun _ R s => s.heap.get? l = some { cls := .type "tuple", dict := dd, data := .seq items n, slots := sl } ∧ R (.ok (.ret (Value.ref l))) s) :=
  .of_wp fun prog w A R s h => by
    obtain ⟨hp, g, d, tk, os⟩ := s
    obtain ⟨hl, h⟩ := h
    have f1 := AutoSeq1.idx_int
    have f2 := AutoSeq1.sub_tuple_tuple
    wp_walk using AutoSeq1.wpAny_loadPart' hl
    exact ⟨_, rfl, h⟩
theorem tup_mulN (l : Addr) (items : Array Value) (n : Nat) (dd : Option Addr) (sl : Array (Option Value)) (k : Int) (u : Tok) (h0 : ¬ (decide (k < -(2 ^ 63)) || decide (k ≥ 2 ^ 63)) = true) (h1 : ¬ (items.isEmpty || k == 1) = true) (h2 : ¬ (decide (k ≤ 0) || items.isEmpty) = true)
    (h3 : ¬ (items.size : Int) * k > (2 ^ 63 - 1) / 8) (h4 : ¬ Builtin.Tuple.tupleTooMany ((items.size : Int) * k) = true)
    (h5 : ¬ ((List.replicate k.toNat items).foldl (· ++ ·) #[]).size > sizeLine) :
    Meets (Builtin.«tuple.__mul__» ⟨[.ref l, .int k u], []⟩) (fun _ R s => s.heap.get? l = some { cls := .type "tuple", dict := dd, data := .seq items n, slots := sl } ∧
      R (.ok (.ret (Value.ref s.heap.objs.size))) { s with heap := s.heap.push { cls := Value.type "tuple", data := Data.seq ((List.replicate k.toNat items).foldl (· ++ ·) #[]) } }) :=
  .of_wp fun prog w A R s h => by
    obtain ⟨hp, g, d, tk, os⟩ := s
    obtain ⟨hl, h⟩ := h
    have f1 := AutoSeq1.idx_int
    have f2 := AutoSeq1.sub_tuple_tuple
    wp_walk using AutoSeq1.wpAny_loadPart' hl
    rw [if_neg h0]
    wp_walk using AutoSeq1.wpAny_loadPart' hl
    rw [if_neg h3]
    wp_walk using AutoSeq1.wpAny_loadPart' hl
    exact ⟨_, rfl, h⟩
def rRepT (K : PySem.W.Frag) : R2 := fun x y H Q => ∃ a k xs, x = .ref a ∧ y = .int k ∧ SqT K H a xs ∧ xs ≠ [] ∧ 1 ≤ k ∧ k < 1000000 ∧ xs.length * k.toNat ≤ sizeLine ∧
  (k = 1 → Q (.ref a) H) ∧ (k ≠ 1 → ∀ p, H p = none → Q (.ref p) (upd H p (.tup (List.replicate k.toNat xs).flatten)))
theorem op_repT : OpR X (binaryOp .Mult) (rRepT X.K) := by
  intro pins s σ H x y v u Q I rx ry h
  obtain ⟨a, k, xs, rfl, rfl, ha, hx, h1, h2, hz, q1, q2⟩ := h
  cases rx
  obtain ⟨t, rfl⟩ := ry
  obtain ⟨its, r, p1, _⟩ := I.tuple ha
  obtain ⟨⟨cls, dd, data, sl⟩, ho, hc, n, hd⟩ := id p1
  simp only at hc hd
  subst hc hd
  have hl := r.length
  have hne : its ≠ [] := fun z => hx (r.nil_iff.mp z)
  have hpos : 0 < its.length := by cases its with | nil => exact absurd rfl hne | cons _ _ => simp
  have f0 : List.foldl (fun x1 x2 => x1 ++ x2) #[] (List.replicate k.toNat its.toArray) = (List.replicate k.toNat its).flatten.toArray := by
    have := foldl_rep its k.toNat []
    rw [List.nil_append] at this
    exact this
  have hsz : its.length * k.toNat ≤ sizeLine := by rw [← hl]; exact hz
  have sl63 : (sizeLine : Nat) ≤ 1000000000 := by rw [sizeLine_eq]; decide
  have hkk : (its.length : Int) * k = ((its.length * k.toNat : Nat) : Int) := by rw [Int.natCast_mul, Int.toNat_of_nonneg (by omega)]
  refine wpAny_binaryOp_repeat_ref (T := "tuple") (U := "int") (by decide) ⟨_, ho, rfl⟩ (fun s' => typeIs_int s' k t) noFill_tup PySem.F.fills_int_mul PySem.F.slot_int_rmul repeat_tup PySem.F.slot_int_index.lookup
    (call_meets PySem.F.slot_int_rmul (typeIs_int s k t) PySem.F.entry_int_rmul (PySem.F.args_int_rmul_2 _ _) (rmul_tup k t a its.toArray n dd sl) ⟨ho, rfl, ⟨_, ho, rfl⟩, ?_⟩)
  by_cases hk : k = 1
  · subst hk
    exact call_meets PySem.F.slot_tuple_mul ⟨_, ho, rfl⟩ PySem.F.entry_tuple_mul (PySem.F.args_tuple_mul_2 _ _) (tup_mul1 a its.toArray n dd sl t) ⟨ho, ⟨.ref a, H, I, rfl, q1 rfl⟩⟩
  · refine call_meets PySem.F.slot_tuple_mul ⟨_, ho, rfl⟩ PySem.F.entry_tuple_mul (PySem.F.args_tuple_mul_2 _ _) (tup_mulN a its.toArray n dd sl k t ?_ ?_ ?_ ?_ ?_ ?_) ⟨ho, ?_⟩
    · simp; omega
    · simp [hne, hk]
    · simp [hne]; omega
    · rw [List.size_toArray, hkk]; omega
    · unfold Builtin.Tuple.tupleTooMany
      rw [List.size_toArray, hkk, decide_eq_false (by omega)]
      exact Bool.false_ne_true
    · rw [f0, List.size_toArray, len_rep, Nat.mul_comm]; omega
    · rw [f0]
      refine ⟨.ref s.heap.objs.size, _, I.laid (t' := s.toks) (o := .tup (List.replicate k.toNat xs).flatten) (fun b ob q => Heap.get?_push_of_some _ q) (Nat.le_refl _) ?_, rfl, q2 hk _ (I.hok.fresh (Nat.le_refl _))⟩
      exact ⟨by rw [len_rep, Nat.mul_comm]; exact hz, _, r.rep k.toNat, IsTup.new _ _, _, Heap.get?_push_size _ rfl, rfl⟩
theorem RVs.rep {K : PySem.W.Frag} {ρ : List Addr} {H : Hp} {xs : List D} {ys : List V} (r : RVs K ρ H xs ys) : ∀ n : Nat, RVs K ρ H (List.replicate n xs).flatten (List.replicate n ys).flatten
  | 0 => .nil
  | n + 1 => by
    rw [List.replicate_succ, List.replicate_succ, List.flatten_cons, List.flatten_cons]
    exact r.app (RVs.rep r n)
def oRepT : Op2 := fun x y h => match x, y with
  | .tup xs, .int k => if xs ≠ [] ∧ 1 ≤ k ∧ k < 1000000 ∧ xs.length * k.toNat ≤ sizeLine then .ok (.tup (List.replicate k.toNat xs).flatten) h else .bad
  | _, _ => .bad
theorem sp_repT {K : PySem.W.Frag} : OpS K oRepT (rRepT K) := by
  intro ρ h H x y x' y' v h' Q rh rx ry e k
  unfold oRepT at e
  split at e
  · split at e
    · rename_i xs kk hz
      cases e
      cases ry
      cases rx with
      | @tup aa _ us ha ra =>
        have l1 := ra.length
        refine ⟨_, _, us, rfl, rfl, ha, fun z => ?_, hz.2.1, hz.2.2.1, by rw [← l1]; exact hz.2.2.2, fun z => ?_, fun z p hp => ?_⟩
        · subst z
          cases ra
          exact hz.1 rfl
        · subst z
          have e1 : (List.replicate (Int.toNat 1) xs).flatten = xs := by simp
          rw [e1] at k
          exact k ρ _ H Ext.refl rh (.tup ha ra)
        · have p1 : Ext K ρ H ρ (upd H p (.tup (List.replicate kk.toNat us).flatten)) := Ext.upd (.inl hp)
          exact k ρ _ _ p1 (rh.laid hp) (.tup (.inl (.inl upd_same)) ((ra.rep _).up p1))
    · cases e
  · cases e
def oRepL : Op2 := fun x y h => match x, y with
  | .ref n, .int k => (match h[n]? with
    | some (.lst xs) => if 0 ≤ k ∧ k < 1000000 ∧ xs.length * k.toNat ≤ sizeLine then newL (List.replicate k.toNat xs).flatten h else .bad
    | _ => .bad)
  | _, _ => .bad
theorem sp_rep {K : PySem.W.Frag} : OpS K oRepL rRep := by
  intro ρ h H x y x' y' v h' Q rh rx ry e k
  unfold oRepL at e
  split at e
  · split at e
    · rename_i q1
      split at e
      · rename_i hz
        cases e
        cases ry
        cases rx with
        | ref h1 =>
          obtain ⟨us, u1, r1⟩ := rh.ob _ _ _ q1 h1
          refine ⟨_, _, us, rfl, rfl, u1, by omega, by omega, by rw [← r1.length]; exact hz.2.2, fun p hp => ?_⟩
          obtain ⟨a1, a2, a3⟩ := newL_ok rh (r1.rep _) hp
          exact k _ _ _ a1 a2 a3
      · cases e
    · cases e
  · cases e
def oMulA : Op2 := orOp oMul (orOp oRepT oRepL)
theorem se_mulA {a b : Expr} {f g : EF} {pos : Pos} (ha : SE X a f) (hb : SE X b g) : SE X (.BinOp a .Mult b pos) (eBin oMulA f g) :=
  se_bin (OpR.or op_mulF (OpR.or op_repT op_rep)) (OpS.or (ops_I (fun _ _ c => c) fun _ _ _ _ => .int _) (OpS.or sp_repT sp_rep orOp_hd) orOp_hd) ha hb
end
section
variable {X : Cx}
end
end EV
set_option Elab.async false
set_option linter.all false
set_option autoImplicit false
set_option maxRecDepth 100000
namespace EV
open PySem PySem.Spec PyProof.Rows L2 HT
section
variable {prog : Program} {w : World} {A : Around} {E : Value → Shared → Prop} {s : Shared}
theorem tupExact {t : Addr} {items : Array Value} {Q : Bool → Shared → Prop} (ht : IsTup s.heap t items) (h : Q true s) : wpAny (model prog w) A (Builtin.Tuple.tupleIsExact (.ref t)) Q E s := by
  unfold Builtin.Tuple.tupleIsExact
  exact wpAny_bind (wpAny_typeOf ht.typeIs (wpAny_pure h))
theorem getItem_whole {t sl : Addr} {items : Array Value} {vl vu : Value} {lo hi : Option Int} {Q : Value → Shared → Prop} (ht : IsTup s.heap t items) (hs : s.heap.IsSliceOf sl vl vu .none) (pl : IsPart vl lo) (pu : IsPart vu hi)
    (hw : HT.sIx items.size 0 lo = 0 ∧ HT.sIx items.size items.size hi = items.size) (h : Q (.ref t) s) : wpAny (model prog w) A (getItem (.ref t) (.ref sl)) Q E s := by
  obtain ⟨os, hos, hcs, hds⟩ := id hs
  have hTs : s.TypeIs (.ref sl) "slice" := ⟨os, hos, hcs⟩
  unfold getItem
  try with_reducible refine wpAny_holding ?_
  first | refine wpAny_bind (wpAny_pure ?_) | skip
  refine wpAny_bind (wpAny_sequenceKey ht.typeIs (by decide) ?_)
  refine wpAny_bind (wpAny_callSpecial?_slot (name := Str.ofString "__getitem__") ht.typeIs PyProof.Rows.slot_tuple_getitem
    (wpAny_call_entry PyProof.Rows.slot_tuple_getitem ht.typeIs entry_tuple_getitem ?_ (args_tuple_getitem _ _)))
  show wpAny _ _ (Builtin.Tuple.tupleItemsOf (.ref t) >>= _) _ _ s
  refine wpAny_bind (tupleItemsOf_ ht ?_)
  refine wpAny_bind (wpAny_typeOf hTs ?_)
  rw [if_pos (by decide)]
  refine wpAny_bind (sliceApplied_gen hs pl pu ?_)
  rw [hw.1, hw.2]
  show wpAny _ _ (if (((0 : Nat) : Int) == 0 && (1 : Int) == 1 && (items.size - 0) == items.size) = true then _ else _) _ _ s
  rw [if_pos (by simp)]
  refine wpAny_bind (tupExact ht ?_)
  simp only [if_true]
  refine wpAny_bind (wpAny_rule ?_)
  first
    | exact wpAny_pure ⟨_, rfl, wpAny_pure h⟩
    | exact wpAny_bind (wpAny_pure (wpAny_pure ⟨_, rfl, wpAny_pure h⟩))
theorem applied_rev {sl : Addr} {n : Nat} {t : Tok} {Q : Int × Int × Nat → Shared → Prop} (hs : s.heap.IsSliceOf sl .none .none (.int (-1) t)) (h : Q ((n : Int) - 1, -1, n) s) : wpAny (model prog w) A (Builtin.Slice.sliceApplied (.ref sl) (pure (n : Int))) Q E s := by
  obtain ⟨os, hos, hcs, hds⟩ := id hs
  unfold Builtin.Slice.sliceApplied Builtin.Slice.sliceFields
  refine wpAny_bind (wpAny_bind (wpAny_field hos hds (x := .none) rfl (wpAny_bind (wpAny_field hos hds (x := .none) rfl (wpAny_bind (wpAny_field hos hds (x := .int (-1) t) rfl (wpAny_pure ?_)))))))
  refine wpAny_bind (slicePart_int ?_)
  show wpAny _ _ (if ((-1 : Int) == 0) = true then _ else _) _ _ s
  rw [if_neg (by decide)]
  refine wpAny_bind (slicePart_none (wpAny_bind (slicePart_none (wpAny_bind (wpAny_pure ?_)))))
  show wpAny _ _ (pure ((n : Int) - 1, (-1 : Int), Builtin.Slice.slicePlaces ((n : Int) - 1) (-1) (-1))) _ _ s
  have : Builtin.Slice.slicePlaces ((n : Int) - 1) (-1) (-1) = n := by
    unfold Builtin.Slice.slicePlaces
    rw [if_neg (by decide)]
    split
    · simp
    · omega
  rw [this]
  exact wpAny_pure h
theorem pick_rev (xs : Array Value) : ((List.range xs.size).filterMap fun (m : Nat) => xs[(((xs.size : Nat) : Int) - 1 + (m : Int) * (-1)).toNat]?) = xs.toList.reverse := by
  obtain ⟨l⟩ := xs
  simp only [List.size_toArray]
  have key : ∀ k, k ≤ l.length → (List.range k).filterMap (fun (m : Nat) => l.toArray[((l.length : Int) - 1 + (m : Int) * (-1)).toNat]?) = l.reverse.take k := by
    intro k
    induction k with
    | zero => intro _; simp
    | succ k ih =>
      intro hk
      rw [List.range_succ, List.filterMap_append, ih (by omega), List.take_add_one, List.getElem?_reverse (by omega)]
      congr 1
      have : ((l.length : Int) - 1 + (k : Int) * (-1)).toNat = l.length - 1 - k := by omega
      simp only [List.filterMap_cons, List.filterMap_nil, this, List.getElem?_toArray]
      rw [List.getElem?_eq_getElem (by omega)]
      rfl
  rw [key l.length (Nat.le_refl _), List.take_of_length_le (by simp)]
theorem getItem_rev {a sl : Addr} {items : Array Value} {t : Tok} {Q : Value → Shared → Prop} (ht : IsTup s.heap a items) (hs : s.heap.IsSliceOf sl .none .none (.int (-1) t))
    (h : Q (.ref s.heap.objs.size) { s with heap := s.heap.push { cls := .type "tuple", data := .seq items.toList.reverse.toArray } }) (hsz : items.size ≤ sizeLine) : wpAny (model prog w) A (getItem (.ref a) (.ref sl)) Q E s := by
  have htake : sizeOk (.seq items.toList.reverse.toArray) := by
    show items.toList.reverse.toArray.size ≤ sizeLine
    simpa using hsz
  obtain ⟨os, hos, hcs, hds⟩ := id hs
  have hTs : s.TypeIs (.ref sl) "slice" := ⟨os, hos, hcs⟩
  unfold getItem
  try with_reducible refine wpAny_holding ?_
  first | refine wpAny_bind (wpAny_pure ?_) | skip
  refine wpAny_bind (wpAny_sequenceKey ht.typeIs (by decide) ?_)
  refine wpAny_bind (wpAny_callSpecial?_slot (name := Str.ofString "__getitem__") ht.typeIs PyProof.Rows.slot_tuple_getitem
    (wpAny_call_entry PyProof.Rows.slot_tuple_getitem ht.typeIs entry_tuple_getitem ?_ (args_tuple_getitem _ _)))
  show wpAny _ _ (Builtin.Tuple.tupleItemsOf (.ref a) >>= _) _ _ s
  refine wpAny_bind (tupleItemsOf_ ht ?_)
  refine wpAny_bind (wpAny_typeOf hTs ?_)
  rw [if_pos (by decide)]
  refine wpAny_bind (applied_rev hs ?_)
  show wpAny _ _ (if (((items.size : Int) - 1) == 0 && (-1 : Int) == 1 && items.size == items.size) = true then _ else _) _ _ s
  rw [if_neg (by simp), pick_rev]
  first
    | exact wpAny_bind (m := Builtin.Tuple.tupleExact _) (wpAny_newObj_type (wpAny_pure ⟨_, rfl, wpAny_pure h⟩) htake)
    | exact wpAny_bind (m := Builtin.Tuple.tupleExact _) (wpAny_newObj_type (wpAny_bind (wpAny_pure (wpAny_pure ⟨_, rfl, wpAny_pure h⟩))) htake)
    | exact wpAny_bind (wpAny_bind (m := Builtin.Tuple.tupleExact _) (wpAny_newObj_type (wpAny_pure (wpAny_pure ⟨_, rfl, wpAny_pure h⟩)) htake))
    | exact wpAny_bind (wpAny_bind (m := Builtin.Tuple.tupleExact _) (wpAny_newObj_type (wpAny_pure ⟨_, rfl, wpAny_pure h⟩) htake))
end
section
variable {X : Cx}
def rSlW (K : PySem.W.Frag) : V → Option Int → Option Int → Hp → VK → Prop := fun x lo hi H Q => ∃ a xs, x = .ref a ∧ SqT K H a xs ∧ (HT.sIx xs.length 0 lo = 0 ∧ HT.sIx xs.length xs.length hi = xs.length) ∧ Q (.ref a) H
theorem sl_whole : SlR X (rSlW X.K) := by
  intro pins s σ H x v vl vu lo hi sl Q I rx hs pl pu h
  obtain ⟨a, xs, rfl, hx, hw, q⟩ := h
  cases rx
  obtain ⟨its, r, ht, hz⟩ := I.tuple hx
  have hlen : its.toArray.size = xs.length := by rw [List.size_toArray]; exact r.length.symm
  exact ⟨"tuple", _, PyProof.Rows.slot_tuple_getitem.lookup, ht.typeIs, getItem_whole ht hs pl pu (by rw [hlen]; exact hw) ⟨.ref a, H, I, rfl, q⟩⟩
def slA (x : D) (lo hi : Option Int) (h : AH) : R D := match x with
  | .fz xs => newL (cutD xs lo hi) h
  | .tup xs => .ok (.tup (cutD xs lo hi)) h
  | .ref n => match h[n]? with | some (.lst xs) => newL (cutD xs lo hi) h | _ => .bad
  | _ => .bad
def eSlA (f : EF) (l u : OF) : EF := fun σ h => (f σ h).bind fun x h1 => (l σ h1).bind fun lo h2 => (u σ h2).bind fun hi h3 => slA x lo hi h3
theorem cut_whole {xs : List D} {lo hi : Option Int} (hw : HT.sIx xs.length 0 lo = 0 ∧ HT.sIx xs.length xs.length hi = xs.length) : cutD xs lo hi = xs := by
  unfold cutD
  rw [hw.1, hw.2]
  simp
theorem slA_eq {x : D} {lo hi : Option Int} {h : AH} {v : D} {h' : AH} (e : slA x lo hi h = .ok v h') : slD x lo hi h = .ok v h' ∨ ∃ xs, x = .tup xs ∧ (HT.sIx xs.length 0 lo = 0 ∧ HT.sIx xs.length xs.length hi = xs.length) ∧ v = .tup xs ∧ h' = h := by
  unfold slA at e
  unfold slD
  split at e
  · exact .inl e
  · rename_i xs
    by_cases hw : HT.sIx xs.length 0 lo = 0 ∧ HT.sIx xs.length xs.length hi = xs.length
    · cases e
      exact .inr ⟨xs, rfl, hw, by rw [cut_whole hw], rfl⟩
    · left
      (try simp only)
      rw [if_neg hw]
      exact e
  · exact .inl e
  · cases e
theorem se_slA {e : Expr} {lo hi : Option Expr} {f : EF} {l u : OF} {p2 pos : Pos} (he : SE X e f) (hl : SO X lo l) (hu : SO X hi u) : SE X (.Subscript e (.Slice lo hi none p2) pos) (eSlA f l u) :=
  ⟨PE.of (pe_slice (SlR.or (SlR.or sl_list sl_tup) sl_whole) he.out hl.out hu.out) fun σ H Q q => by
  obtain ⟨ρ, σa, h, v, h', rh, rs, e, k⟩ := q
  obtain ⟨x, h1, e1, e⟩ := bind_eq e
  obtain ⟨i, h2, e2, e⟩ := bind_eq e
  obtain ⟨j, h3, e3, e⟩ := bind_eq e
  refine ⟨ρ, σa, h, x, h1, rh, rs, e1, fun ρ1 x' H1 p1 rh1 rx => ⟨ρ1, σa, h1, i, h2, rh1, rs.up p1, e2, fun ρ2 H2 p2 rh2 => ⟨ρ2, σa, h2, j, h3, rh2, rs.up (p1.trans p2), e3, fun ρ3 H3 p3 rh3 => ?_⟩⟩⟩
  have rx3 := rx.up (p2.trans p3)
  have pp := p1.trans (p2.trans p3)
  rcases slA_eq e with e | ⟨xs, rfl, hw, rfl, rfl⟩
  · left
    unfold slD at e
    split at e
    · cases e
      cases rx3 with
      | fz hs r =>
        refine .inl ⟨_, _, rfl, hs.sq, fun p hp => ?_⟩
        obtain ⟨a, b, c⟩ := newL_ok rh3 (cutD_rel r i j) hp
        exact k _ _ _ (pp.trans a) b c
    · split at e
      · cases e
      · rename_i hne
        cases e
        cases rx3 with
        | tup hs r =>
          refine .inr ⟨_, _, rfl, hs, ?_, fun p hp => ?_⟩
          · rw [r.length] at hne; exact hne
          · exact k _ _ _ (pp.trans (Ext.upd (.inl hp))) (rh3.laid hp) (.newTup (cutD_rel r i j) hp)
    · rename_i n
      cases rx3 with
      | @ref _ a hr =>
        split at e
        · rename_i xs q0
          cases e
          obtain ⟨ys, hy, r⟩ := rh3.ob _ _ a q0 hr
          refine .inl ⟨_, _, rfl, SqL.of hy, fun p hp => ?_⟩
          obtain ⟨a, b, c⟩ := newL_ok rh3 (cutD_rel r i j) hp
          exact k _ _ _ (pp.trans a) b c
        · cases e
    · cases e
  · right
    cases rx3 with
    | tup hs r => exact ⟨_, _, rfl, hs, by rw [← r.length]; exact hw, k ρ3 _ H3 pp rh3 (.tup hs r)⟩⟩
end
end EV
set_option Elab.async false
set_option linter.all false
set_option autoImplicit false
set_option maxRecDepth 100000
namespace EV
open PySem PySem.Spec PyProof.Rows L2
section
variable {prog : Program} {w : World} {A : Around} {E : Value → Shared → Prop} {s : Shared}
end
section
variable {X : Cx}
end
end EV
set_option Elab.async false
set_option linter.all false
set_option autoImplicit false
set_option maxRecDepth 100000
namespace EV
open PySem PySem.Spec PyProof.Rows L2
mutual
inductive Rz (h : Heap) : Value → PyData → Prop
  | non : Rz h .none .none
  | bl (b : Bool) : Rz h (.bool b) (.bool b)
  | int (i : Int) (t : Tok) : Rz h (.int i t) (.int i)
  | str (x : Str) (t : Tok) : Rz h (.str x t) (.str x)
  | lst {a : Addr} {o : Obj} {vs : Array Value} {n : Nat} {xs : List PyData} : h.get? a = some o → o.cls = .type "list" → o.data = .seq vs n → RzA h vs.toList xs → Rz h (.ref a) (.list xs)
  | tup {a : Addr} {o : Obj} {vs : Array Value} {n : Nat} {xs : List PyData} : h.get? a = some o → o.cls = .type "tuple" → o.data = .seq vs n → RzA h vs.toList xs → Rz h (.ref a) (.tuple xs)
  | dct {a : Addr} {o : Obj} {n : Nat} : h.get? a = some o → o.cls = .type "dict" → o.data = .dict #[] n → (a == sysModules) = false → Rz h (.ref a) (.dict [])
inductive RzA (h : Heap) : List Value → List PyData → Prop
  | nil : RzA h [] []
  | cons {v : Value} {vs : List Value} {d : PyData} {ds : List PyData} : Rz h v d → RzA h vs ds → RzA h (v :: vs) (d :: ds)
end
section
variable {h : Heap}
mutual
theorem Rz.reads : ∀ {v : Value} {d : PyData}, Rz h v d → ∃ as, Reads h v d as
  | _, _, .non => ⟨_, .none⟩
  | _, _, .bl b => ⟨_, .bool b⟩
  | _, _, .int i t => ⟨_, .int i t⟩
  | _, _, .str x t => ⟨_, .str x t⟩
  | _, _, .lst e c q r => let ⟨_, z⟩ := RzA.reads r; ⟨_, .list e c q z⟩
  | _, _, .tup e c q r => let ⟨_, z⟩ := RzA.reads r; ⟨_, .tuple e c q z⟩
  | _, _, .dct e c q _ => ⟨_, .dict e c q .nil .nil⟩
theorem RzA.reads : ∀ {vs : List Value} {ds : List PyData}, RzA h vs ds → ∃ as, ReadsAll h vs ds as
  | _, _, .nil => ⟨_, .nil⟩
  | _, _, .cons a b => let ⟨_, z⟩ := Rz.reads a; let ⟨_, y⟩ := RzA.reads b; ⟨_, .cons z y⟩
end
variable {prog : Program} {w : World}
mutual
theorem repZ : ∀ {v : Value} {d : PyData}, Rz h v d → d.showable = true → d.shown.length ≤ sizeLine → ∃ bs, ReadAtMost h d.depth bs ∧ ReprK prog w bs h d.depth v d.shown
  | _, _, .non, _, _ => ⟨[], (fun _ z => nomatch z), by (simp only [PyData.shown]; exact .of_is ReprIs.none _ _ _)⟩
  | _, _, .bl b, _, _ => ⟨[], (fun _ z => nomatch z), by (simp only [PyData.shown]; exact .of_is (ReprIs.bool b) _ _ _)⟩
  | _, _, .int i t, hs, _ => ⟨[], (fun _ z => nomatch z), by (simp only [PyData.shown]; exact .of_is (ReprIs.int t (by simpa [PyData.showable] using hs)) _ _ _)⟩
  | _, _, .str x t, _, hz => ⟨[], (fun _ z => nomatch z), by (simp only [PyData.shown]; exact .of_is (ReprIs.str x t (by simpa only [PyData.shown] using hz)) _ _ _)⟩
  | _, _, .lst (a := a) (vs := vs) (xs := xs) e c q r, hs, hz => by
    have sm : (listText (PyData.shownAll xs)).length ≤ sizeLine := by (simpa only [PyData.shown] using hz)
    obtain ⟨bs, hb, hk⟩ := repZA r (by simpa [PyData.showable] using hs) (fun t ht => Nat.le_trans (listText_mem_le ht) sm)
    obtain ⟨_, rd⟩ := RzA.reads r
    have whole : Reads h (.ref a) (.list xs) _ := .list e c q rd
    have na : a ∉ bs := not_mem_of_deeper whole (by (simp only [PyData.depth]; omega)) hb
    refine ⟨a :: bs, ReadAtMost.cons whole (by (simp only [PyData.depth]; omega)) hb, ?_⟩
    simp only [PyData.depth, PyData.shown]
    obtain ⟨l⟩ := vs
    cases l with
    | nil =>
      have r' : RzA h [] xs := r
      cases r'
      simp only [PyData.shownAll, listText_nil]
      exact ReprK.listEmpty e c q
    | cons x l => exact ReprK.list e c q na (by simpa using hk.length_eq) (fun i y z => hk.item i y (by simpa using z))
  | _, _, .tup (a := a) (xs := xs) e c q r, hs, hz => by
    have sm : (tupleText (PyData.shownAll xs)).length ≤ sizeLine := by (simpa only [PyData.shown] using hz)
    obtain ⟨bs, hb, hk⟩ := repZA r (by simpa [PyData.showable] using hs) (fun t ht => Nat.le_trans (tupleText_mem_le ht) sm)
    obtain ⟨_, rd⟩ := RzA.reads r
    have whole : Reads h (.ref a) (.tuple xs) _ := .tuple e c q rd
    have na : a ∉ bs := not_mem_of_deeper whole (by (simp only [PyData.depth]; omega)) hb
    refine ⟨a :: bs, ReadAtMost.cons whole (by (simp only [PyData.depth]; omega)) hb, ?_⟩
    simp only [PyData.depth, PyData.shown]
    exact ReprK.tuple e c q na hk
  | _, _, .dct (a := a) e c q ns, hs, hz => by
    have whole : Reads h (.ref a) (.dict []) _ := .dict e c q .nil .nil
    refine ⟨[a], ReadAtMost.cons whole (Nat.le_refl _) (fun _ z => nomatch z), ?_⟩
    simp only [PyData.depth, PyData.shown, PyData.shownKv_eq]
    exact ReprK.dict e c q ns (by simp) (ReprEntriesK.of_two [] _ _ .nil .nil)
theorem repZA : ∀ {vs : List Value} {ds : List PyData}, RzA h vs ds → PyData.showableAll ds = true → (∀ t ∈ PyData.shownAll ds, t.length ≤ sizeLine) → ∃ bs, ReadAtMost h (PyData.depthAll ds) bs ∧ ReprAllK prog w bs h (PyData.depthAll ds) vs (PyData.shownAll ds)
  | _, _, .nil, _, _ => ⟨[], (fun _ z => nomatch z), by (simp only [PyData.shownAll]; exact .nil)⟩
  | _, _, .cons (d := d) (ds := ds) a b, hs, hz => by
    have two : d.showable = true ∧ PyData.showableAll ds = true := by (simpa [PyData.showableAll] using hs)
    obtain ⟨b1, m1, k1⟩ := repZ a two.1 (hz _ (by (simp only [PyData.shownAll]; exact List.mem_cons_self ..)))
    obtain ⟨b2, m2, k2⟩ := repZA b two.2 (fun t ht => hz t (by (simp only [PyData.shownAll]; exact List.mem_cons_of_mem _ ht)))
    refine ⟨b1 ++ b2, fun x hx => ?_, ?_⟩
    · simp only [PyData.depthAll]
      rcases List.mem_append.mp hx with y | y
      · obtain ⟨d2, as2, r2, l2⟩ := m1 x y
        exact ⟨d2, as2, r2, Nat.le_trans l2 (Nat.le_max_left _ _)⟩
      · obtain ⟨d2, as2, r2, l2⟩ := m2 x y
        exact ⟨d2, as2, r2, Nat.le_trans l2 (Nat.le_max_right _ _)⟩
    · simp only [PyData.depthAll, PyData.shownAll]
      exact .cons ((k1.more fun x hx => List.mem_append_left _ hx).level_le (Nat.le_max_left _ _)) (k2.more_le (fun x hx => List.mem_append_right _ hx) (Nat.le_max_right _ _))
end
theorem callReprZ {A : Around} {E : Value → Shared → Prop} {s : Shared} {Q : Value → Shared → Prop} {a : Addr} {d : PyData} (r : Rz s.heap (.ref a) d) (hs : d.showable = true) (hg : A.guards = some []) (hu : A.units + (d.depth + 1) < cLine)
    (hsz : d.shown.length ≤ sizeLine) (hQ : ∀ h' u tk, (∀ b o, s.heap.get? b = some o → h'.get? b = some o) → Q (.str d.shown u) { s with heap := h', toks := tk }) : wpAny (model prog w) A (call (.builtin "repr") [.ref a]) Q E s := by
  have hu1 : A.in1.units + d.depth < cLine := by (show A.units + 1 + d.depth < cLine; omega)
  cases r with
  | @lst _ o vs n xs e c q r =>
    have sm : (listText (PyData.shownAll xs)).length ≤ sizeLine := by (simpa only [PyData.shown] using hsz)
    obtain ⟨bs, hb, hk⟩ := repZA (prog := prog) (w := w) r (by simpa [PyData.showable] using hs) (fun t ht => Nat.le_trans (listText_mem_le ht) sm)
    obtain ⟨_, rd⟩ := RzA.reads r
    have na : a ∉ bs := not_mem_of_deeper (.list e c q rd) (by (simp only [PyData.depth]; omega)) hb
    simp only [PyData.depth] at hu1
    simp only [PyData.shown] at hQ
    refine call_repr_slot (by omega) ⟨o, e, c⟩ PySem.F.slot_list_repr.toG ?_
    obtain ⟨l⟩ := vs
    cases l with
    | nil =>
      have r' : RzA s.heap [] xs := r
      cases r'
      simp only [PyData.shownAll, listText_nil] at hQ
      exact call_list_repr_empty ⟨o, e, c⟩ e q ⟨_, _, rfl, hQ s.heap _ _ fun _ _ z => z⟩
    | cons x l => exact call_list_reprK e c q na (by simpa using hk.length_eq) (fun i y z => hk.item i y (by simpa using z)) hg (fun b _ => Clear.nil b) hu1 (fun _ _ z => z) (fun h' u tk hk => ⟨_, _, rfl, hQ h' u tk hk⟩) sm
  | @tup _ o vs n xs e c q r =>
    have sm : (tupleText (PyData.shownAll xs)).length ≤ sizeLine := by (simpa only [PyData.shown] using hsz)
    obtain ⟨bs, hb, hk⟩ := repZA (prog := prog) (w := w) r (by simpa [PyData.showable] using hs) (fun t ht => Nat.le_trans (tupleText_mem_le ht) sm)
    obtain ⟨_, rd⟩ := RzA.reads r
    have na : a ∉ bs := not_mem_of_deeper (.tuple e c q rd) (by (simp only [PyData.depth]; omega)) hb
    simp only [PyData.depth] at hu1
    simp only [PyData.shown] at hQ
    exact call_repr_slot (by omega) ⟨o, e, c⟩ PySem.F.slot_tuple_repr (call_tuple_reprK e c q na hk hg (fun b _ => Clear.nil b) hu1 (fun _ _ z => z) (fun h' u tk hk => ⟨_, _, rfl, hQ h' u tk hk⟩) sm)
  | @dct _ o n e c q ns =>
    simp only [PyData.depth] at hu1
    simp only [PyData.shown, PyData.shownKv_eq] at hQ hsz
    exact call_repr_slot (by omega) ⟨o, e, c⟩ PySem.F.slot_dict_repr (call_dict_reprK (as := []) e c q ns (by simp) (ReprEntriesK.of_two [] _ _ .nil .nil) hg (fun b _ => Clear.nil b) hu1 (fun _ _ z => z) (fun h' u tk hk => ⟨_, _, rfl, hQ h' u tk hk⟩) hsz)
end
mutual
inductive Dz (K : PySem.W.Frag) (H : Hp) : V → PyData → Prop
  | non : Dz K H .non .none
  | bl (b : Bool) : Dz K H (.bl b) (.bool b)
  | int (i : Int) : Dz K H (.int i) (.int i)
  | str (x : Str) : Dz K H (.str x) (.str x)
  | lst {a : Addr} {xs : List V} {ds : List PyData} : SqL K H a xs → DzA K H xs ds → Dz K H (.ref a) (.list ds)
  | tup {a : Addr} {xs : List V} {ds : List PyData} : SqT K H a xs → DzA K H xs ds → Dz K H (.ref a) (.tuple ds)
  | dct {a : Addr} : H a = some (.dK []) → Dz K H (.ref a) (.dict [])
inductive DzA (K : PySem.W.Frag) (H : Hp) : List V → List PyData → Prop
  | nil : DzA K H [] []
  | cons {v : V} {vs : List V} {d : PyData} {ds : List PyData} : Dz K H v d → DzA K H vs ds → DzA K H (v :: vs) (d :: ds)
end
section
variable {X : Cx} {pins : List (Addr × Obj)} {σ : L2.St} {H : Hp} {s : Shared}
mutual
theorem Dz.rz (I : L2.Inv X pins σ H s) : ∀ (d : PyData) (v : V) (u : Value), Dz X.K H v d → RelV v u → Rz s.heap u d
  | .none, _, _, h, r => by cases h; cases r; exact .non
  | .bool b, _, _, h, r => by cases h; cases r; exact .bl b
  | .int i, _, _, h, r => by
    cases h
    obtain ⟨t, rfl⟩ := r
    exact .int i t
  | .str x, _, _, h, r => by
    cases h
    obtain ⟨t, rfl⟩ := r
    exact .str x t
  | .list ds, _, _, h, r => by
    cases h with
    | lst hs ha =>
      cases r
      obtain ⟨its, rv, ⟨o, n, ho, hc, _, hd⟩, _⟩ := I.list hs
      exact .lst ho hc hd (Dz.rzA I ds _ its ha rv)
  | .tuple ds, _, _, h, r => by
    cases h with
    | tup hs ha =>
      cases r
      obtain ⟨its, rv, ⟨o, ho, hc, n, hd⟩, _⟩ := I.tuple hs
      exact .tup ho hc hd (Dz.rzA I ds _ its ha rv)
  | .dict [], _, _, h, r => by
    cases h with
    | dct ha =>
      cases r
      obtain ⟨_, ns, vs, kv, o, es, ep, e, xd, ed, _, el, _⟩ := I.hok _ _ ha
      cases kv
      have z := el.length
      have : es = #[] := by (apply Array.toList_inj.mp; exact List.length_eq_zero_iff.mp z)
      subst this
      exact .dct e xd.1 ed ns
  | .dict (_ :: _), _, _, h, _ => by cases h
theorem Dz.rzA (I : L2.Inv X pins σ H s) : ∀ (ds : List PyData) (vs : List V) (us : List Value), DzA X.K H vs ds → Vals vs us → RzA s.heap us ds
  | [], _, _, h, r => by cases h; cases r; exact .nil
  | d :: ds, _, _, h, r => by
    cases h with
    | cons h1 h2 =>
      cases r with
      | cons r1 r2 => exact .cons (Dz.rz I d _ _ h1 r1) (Dz.rzA I ds _ _ h2 r2)
end
end
mutual
def toPz (h : AH) : Nat → D → Option PyData
  | 0, _ => none
  | n + 1, d => match d with
    | .non => some .none
    | .bl b => some (.bool b)
    | .int i => some (.int i)
    | .str x => some (.str x)
    | .tup xs => (toPzs h n xs).map .tuple
    | .fz xs => (toPzs h n xs).map .list
    | .ref m => match h[m]? with | some (.lst xs) => (toPzs h n xs).map .list | some (.dct []) => some (.dict []) | _ => none
def toPzs (h : AH) : Nat → List D → Option (List PyData)
  | 0, _ => none
  | _ + 1, [] => some []
  | n + 1, x :: xs => match toPz h (n + 1) x, toPzs h (n + 1) xs with | some d, some ds => some (d :: ds) | _, _ => none
end
mutual
theorem toPz_dz {K : PySem.W.Frag} {ρ : List Addr} {h : AH} {H : Hp} (rh : RH K ρ h H) : ∀ (n : Nat) (d : D) (v : V) (p : PyData), toPz h n d = some p → RV K ρ H d v → Dz K H v p
  | 0, _, _, _, e, _ => by simp [toPz] at e
  | n + 1, .non, _, _, e, r => by simp [toPz] at e; subst e; cases r; exact .non
  | n + 1, .bl b, _, _, e, r => by simp [toPz] at e; subst e; cases r; exact .bl b
  | n + 1, .int i, _, _, e, r => by simp [toPz] at e; subst e; cases r; exact .int i
  | n + 1, .str x, _, _, e, r => by simp [toPz] at e; subst e; cases r; exact .str x
  | n + 1, .tup xs, _, _, e, r => by
    simp only [toPz, Option.map_eq_some_iff] at e
    obtain ⟨ds, e, rfl⟩ := e
    cases r with
    | tup hs r => exact .tup hs (toPzs_dz rh n xs _ ds e r)
  | n + 1, .fz xs, _, _, e, r => by
    simp only [toPz, Option.map_eq_some_iff] at e
    obtain ⟨ds, e, rfl⟩ := e
    cases r with
    | fz hs r => exact .lst hs.sq (toPzs_dz rh n xs _ ds e r)
  | n + 1, .ref m, _, _, e, r => by
    simp only [toPz] at e
    split at e
    · rename_i xs q
      simp only [Option.map_eq_some_iff] at e
      obtain ⟨ds, e, rfl⟩ := e
      cases r with
      | ref hr =>
        obtain ⟨ys, hy, ry⟩ := rh.ob _ _ _ q hr
        exact .lst (SqL.of hy) (toPzs_dz rh n xs _ ds e ry)
    · rename_i q
      cases e
      cases r with
      | ref hr =>
        obtain ⟨ys, hy, ry⟩ := rh.ob _ _ _ q hr
        cases ry
        exact .dct hy
    · cases e
theorem toPzs_dz {K : PySem.W.Frag} {ρ : List Addr} {h : AH} {H : Hp} (rh : RH K ρ h H) : ∀ (n : Nat) (ds : List D) (vs : List V) (ps : List PyData), toPzs h n ds = some ps → RVs K ρ H ds vs → DzA K H vs ps
  | 0, _, _, _, e, _ => by simp [toPzs] at e
  | n + 1, [], _, _, e, r => by simp [toPzs] at e; subst e; cases r; exact .nil
  | n + 1, x :: xs, _, _, e, r => by
    simp only [toPzs] at e
    split at e
    · rename_i d ds e1 e2
      cases e
      cases r with
      | cons r1 r2 => exact .cons (toPz_dz rh (n + 1) x _ d e1 r1) (toPzs_dz rh (n + 1) xs _ ds e2 r2)
    · cases e
end
section
variable {X : Cx}
def bReprZ : BF := fun xs h => match xs with
  | [x] => match toPz h deep x with
    | some d => if d.showable = true ∧ d.depth ≤ 60 ∧ d.shown.length ≤ sizeLine then .ok (.str d.shown) h else .bad
    | none => .bad
  | _ => .bad
def rReprZ (K : PySem.W.Frag) : List V → Hp → VK → Prop := fun xs H Q => ∃ x d, xs = [x] ∧ Dz K H x d ∧ d.showable = true ∧ d.depth ≤ 60 ∧ d.shown.length ≤ sizeLine ∧ Q (.str d.shown) H
theorem call_reprZ (hg : X.A.guards = some []) (hu : X.A.units + 64 < cLine) : CallR X (.builtin "repr") (rReprZ X.K) := by
  intro pins s σ H xs us Q I r h
  obtain ⟨x, d, rfl, hd, hs, hdp, hz, q⟩ := h
  obtain ⟨u, rfl, ru⟩ := vals1 r
  have rd := Dz.rz I d x u hd ru
  have fin : ∀ h' t tk, (∀ b o, s.heap.get? b = some o → h'.get? b = some o) → EP X pins σ Q (.str d.shown t) { s with heap := h', toks := tk } := fun h' t tk hk => ⟨.str d.shown, H, I.kept hk, ⟨t, rfl⟩, q⟩
  cases rd with
  | non => exact PySem.P.repr_of_none (fin s.heap _ _ fun _ _ e => e)
  | bl b => exact PySem.P.repr_of_bool (fin s.heap _ _ fun _ _ e => e)
  | int i t => exact PySem.P.repr_of_int (by simpa [PyData.showable] using hs) (fin s.heap _ _ fun _ _ e => e)
  | str y t => exact PySem.P.repr_of_str (fin s.heap _ _ fun _ _ e => e) hz
  | lst e1 e2 e3 e4 => exact callReprZ (.lst e1 e2 e3 e4) hs hg (by omega) hz fin
  | tup e1 e2 e3 e4 => exact callReprZ (.tup e1 e2 e3 e4) hs hg (by omega) hz fin
  | dct e1 e2 e3 e4 => exact callReprZ (.dct e1 e2 e3 e4) hs hg (by omega) hz fin
theorem sp_reprZ {K : PySem.W.Frag} : CallS K bReprZ (rReprZ K) := by
  intro ρ h H xs ys v h' Q rh rx e k
  unfold bReprZ at e
  split at e
  · split at e
    · rename_i d q
      split at e
      · rename_i c
        cases e
        cases rx with
        | cons a b =>
          cases b
          exact ⟨_, d, rfl, toPz_dz rh _ _ _ _ q a, c.1, c.2.1, c.2.2, k ρ _ H Ext.refl rh (.str _)⟩
      · cases e
    · cases e
  · cases e
theorem se_reprZ {j : Nat} {e : Expr} {f : AF} {p pos : Pos} (hr : Room j X.A) (hm : X.mg "repr" = none) (ha : SA X [e] f) (hg : Gl X "repr" := by rfl) (he : starEach [e] X.env = (false, eval e X.env) :: starEach [] X.env := by rfl) (hpl : (backTo pos (starEach [] X.env)).any (·.1) = false := by rfl) :
    SE X (.Call (.Name "repr" p) [e] [] pos) (eApp bReprZ f) :=
  se_bi (call_reprZ hr.gd hr.units) sp_reprZ hm (by decide +kernel) ha hg (by decide +kernel) (by decide +kernel) he hpl
end
end EV
namespace EV
open PySem PySem.Spec PyProof.Rows L2
end EV
set_option Elab.async false
set_option linter.all false
set_option autoImplicit false
set_option maxRecDepth 100000
namespace EV
open PySem PySem.Spec PyProof.Rows L2
section
variable {X : Cx}
mutual
theorem reads_det {h : Heap} : ∀ {v : Value} {d d' : PyData} {as as' : List Addr}, Reads h v d as → Reads h v d' as' → d.canLay0 = true → d'.canLay0 = true → d = d'
  | _, _, _, _, _, .none, r, _, _ => by cases r; rfl
  | _, _, _, _, _, .bool b, r, _, _ => by cases r; rfl
  | _, _, _, _, _, .int i t, r, _, _ => by cases r; rfl
  | _, _, _, _, _, .str x t, r, _, _ => by cases r; rfl
  | _, _, _, _, _, .list e1 c1 d1 r1, r, k, k' => by
    cases r with
    | list e2 c2 d2 r2 =>
      rw [e1] at e2; cases e2
      rw [d1] at d2; cases d2
      rw [readsAll_det r1 r2 (by simpa [PyData.canLay0] using k) (by simpa [PyData.canLay0] using k')]
    | tuple e2 c2 d2 r2 => rw [e1] at e2; cases e2; rw [c1] at c2; simp at c2
    | dict e2 c2 d2 _ _ => rw [e1] at e2; cases e2; rw [c1] at c2; simp at c2
  | _, _, _, _, _, .tuple e1 c1 d1 r1, r, k, k' => by
    cases r with
    | tuple e2 c2 d2 r2 =>
      rw [e1] at e2; cases e2
      rw [d1] at d2; cases d2
      rw [readsAll_det r1 r2 (by simpa [PyData.canLay0] using k) (by simpa [PyData.canLay0] using k')]
    | list e2 c2 d2 r2 => rw [e1] at e2; cases e2; rw [c1] at c2; simp at c2
    | dict e2 c2 d2 _ _ => rw [e1] at e2; cases e2; rw [c1] at c2; simp at c2
  | _, _, _, _, _, .dict _ _ _ _ _, r, k, _ => by simp [PyData.canLay0] at k
theorem readsAll_det {h : Heap} : ∀ {v : List Value} {d d' : List PyData} {as as' : List Addr}, ReadsAll h v d as → ReadsAll h v d' as' → PyData.canLayAll0 d = true → PyData.canLayAll0 d' = true → d = d'
  | _, _, _, _, _, .nil, r, _, _ => by cases r; rfl
  | _, _, _, _, _, .cons a b, r, k, k' => by
    cases r with
    | cons a' b' =>
      simp only [PyData.canLayAll0, Bool.and_eq_true] at k k'
      rw [reads_det a a' k.1 k'.1, readsAll_det b b' k.2 k'.2]
end
open Classical in
noncomputable def eqR (h : Heap) (d : PyData) (u : Value) : Bool := decide (∃ c as, Reads h u c as ∧ c.canLay0 = true ∧ PyData.eqv c d = true)
open Classical in
theorem eqR_of {h : Heap} {d c : PyData} {u : Value} {as : List Addr} (r : Reads h u c as) (k : c.canLay0 = true) : eqR h d u = PyData.eqv c d := by
  unfold eqR
  cases e : PyData.eqv c d with
  | true => exact decide_eq_true ⟨c, as, r, k, e⟩
  | false =>
    refine decide_eq_false ?_
    rintro ⟨c', as', r', k', e'⟩
    rw [reads_det r r' k k', e'] at e
    cases e
def rInD (K : PySem.W.Frag) (neg : Bool) : R2 := fun x y H Q => ∃ p xs d ds, y = .ref p ∧ (SqL K H p xs ∨ SqT K H p xs) ∧ Dp K H x d ∧ DpAll K H xs ds ∧ (d.canLay0 = true ∧ d.depth ≤ 60) ∧ PyData.canLayAll0 ds = true ∧
  Q (.bl (if neg then !ds.any (fun c => PyData.eqv c d) else ds.any fun c => PyData.eqv c d)) H
theorem mem_eqR {pins : List (Addr × Obj)} {σ : L2.St} {H : Hp} {s : Shared} (I : Inv X pins σ H s) (hu : X.A.units + 64 < cLine) {v : Value} {d : PyData} {bs : List Addr} (r : Reads s.heap v d bs) (hd : d.canLay0 = true ∧ d.depth ≤ 60) :
    ∀ {xs : List V} {us : List Value} {ds : List PyData}, Vals xs us → DpAll X.K H xs ds → PyData.canLayAll0 ds = true → (∀ u ∈ us, SeqAt.EqAt X.A.in1 s u v (eqR s.heap d u)) ∧ us.any (eqR s.heap d) = ds.any fun c => PyData.eqv c d
  | _, _, _, .nil, .nil, _ => ⟨fun u hu' => (List.not_mem_nil hu').elim, rfl⟩
  | y :: xs, u :: us, c :: ds, .cons r1 t, .cons a b, k => by
    simp only [PyData.canLayAll0, Bool.and_eq_true] at k
    obtain ⟨h1, h2⟩ := mem_eqR I hu r hd t b k.2
    obtain ⟨as, ra⟩ := Dp.reads I c y u a r1
    have e := eqR_of (d := d) ra k.1
    refine ⟨fun u' hu' => ?_, by rw [List.any_cons, List.any_cons, h2, e]⟩
    rcases List.mem_cons.mp hu' with rfl | hu'
    · rw [e]
      refine SeqAt.eqAt_reads c d X.A.in1 s _ v as bs ra r k.1 hd.1 ?_
      have := Nat.min_le_right c.depth d.depth
      show X.A.units + 1 + min c.depth d.depth < cLine
      omega
    · exact h1 u' hu'
theorem op_inD (hu : X.A.units + 64 < cLine) : OpR X (compareOp .In) (rInD X.K false) := by
  intro pins s σ H x y v u Q I rx ry h
  obtain ⟨p, xs, d, ds, rfl, hq, hx, hxs, kd, ks, q⟩ := h
  cases ry
  obtain ⟨bs, rd⟩ := Dp.reads I d x v hx rx
  rcases hq with hq | hq
  · obtain ⟨its, r, pl, hz⟩ := I.list hq
    obtain ⟨m1, m2⟩ := mem_eqR I hu rd kd r hxs ks
    refine SeqAt.in_listAt (eqR s.heap d) pl.isList (fun w hw => m1 w (by simpa using hw)) ⟨.bl _, H, I, rfl, ?_⟩
    rw [show its.toArray.any (eqR s.heap d) = its.any (eqR s.heap d) by simp, m2]
    exact q
  · obtain ⟨its, r, pl, hz⟩ := I.tuple hq
    obtain ⟨m1, m2⟩ := mem_eqR I hu rd kd r hxs ks
    refine SeqAt.in_tupleAt (eqR s.heap d) pl (fun w hw => m1 w (by simpa using hw)) ⟨.bl _, H, I, rfl, ?_⟩
    rw [show its.toArray.any (eqR s.heap d) = its.any (eqR s.heap d) by simp, m2]
    exact q
def oInD (neg : Bool) : Op2 := fun x y h => match seqOf y h with
  | some xs => (match toP h deep x, toPs h deep xs with
    | some d, some ds => if (d.canLay0 = true ∧ d.depth ≤ 60) ∧ PyData.canLayAll0 ds = true then .ok (.bl (if neg then !ds.any (fun c => PyData.eqv c d) else ds.any fun c => PyData.eqv c d)) h else .bad
    | _, _ => .bad)
  | none => .bad
theorem sp_inD {K : PySem.W.Frag} {neg : Bool} : OpS K (oInD neg) (rInD K neg) := by
  intro ρ h H x y x' y' v h' Q rh rx ry e k
  unfold oInD at e
  split at e
  · rename_i xs es
    split at e
    · rename_i d ds e1 e2
      split at e
      · rename_i c
        cases e
        have dx := toP_dp rh _ _ _ _ e1 rx
        have key : ∀ ys, RVs K ρ H xs ys → DpAll K H ys ds := fun ys r => toPs_dp rh _ _ _ _ e2 r
        cases ry with
        | tup hs r =>
          simp only [seqOf, Option.some.injEq] at es
          subst es
          exact ⟨_, _, d, ds, rfl, .inr hs, dx, key _ r, c.1, c.2, k ρ _ H Ext.refl rh (.bl _)⟩
        | fz hs r =>
          simp only [seqOf, Option.some.injEq] at es
          subst es
          exact ⟨_, _, d, ds, rfl, .inl hs.sq, dx, key _ r, c.1, c.2, k ρ _ H Ext.refl rh (.bl _)⟩
        | ref hr =>
          simp only [seqOf] at es
          split at es
          · rename_i q
            cases es
            obtain ⟨zs, hz, rz⟩ := rh.ob _ _ _ q hr
            exact ⟨_, _, d, ds, rfl, .inl (SqL.of hz), dx, key _ rz, c.1, c.2, k ρ _ H Ext.refl rh (.bl _)⟩
          · cases es
        | _ => simp [seqOf] at es
      · cases e
    · cases e
  · cases e
def truD (x : D) (h : AH) : Option Bool := match x with
  | .non => some false
  | .bl b => some b
  | .int i => some (i != 0)
  | .tup xs => some (!xs.isEmpty)
  | .fz xs => some (!xs.isEmpty)
  | .ref n => match h[n]? with | some (.lst xs) => some (!xs.isEmpty) | _ => none
  | _ => none
theorem isEmpty_rel {K : PySem.W.Frag} {ρ : List Addr} {H : Hp} {xs : List D} {ys : List V} (r : RVs K ρ H xs ys) : xs.isEmpty = ys.isEmpty := by cases r <;> rfl
end
end EV
set_option Elab.async false
set_option linter.all false
set_option autoImplicit false
set_option maxRecDepth 100000
namespace EV
open PySem PySem.Spec PyProof.Rows L2
section
variable {X : Cx}
theorem pick_revL (l : List Value) : slicePick l.toArray none none (some (-1)) = l.reverse.toArray := by
  have e := pick_rev l.toArray
  simp only [List.size_toArray] at e
  unfold slicePick
  congr 1
  rw [← e]
  show (sliceRange ((l.toArray.size : Int) - 1) (-1) (-1)).filterMap (l.toArray[·]?) = _
  unfold sliceRange
  simp only [List.size_toArray]
  have hc : (if (-1 : Int) > 0 then (if (l.length : Int) - 1 < -1 then (-1 - ((l.length : Int) - 1) + -1 - 1) / -1 else 0) else (if (l.length : Int) - 1 > -1 then ((l.length : Int) - 1 - -1 - -1 - 1) / (- -1) else 0)).toNat = l.length := by
    rw [if_neg (by decide)]
    split
    · have : (- (-1 : Int)) = 1 := by decide
      rw [this, Int.ediv_one]; omega
    · omega
  rw [hc, List.filterMap_map]
  congr 1
  funext m
  simp only [Function.comp]
  congr 2
  omega
theorem pe_revL {e : Expr} {te : TE} {k : Nat} {cp up p2 pos : Pos} (he : PE X e te) : PE X (.Subscript e (.Slice none none (some (.UnaryOp .USub (.Constant (.int 1) k cp) up)) p2) pos)
    (fun σ H Q => te σ H fun x H1 => (∃ a xs, x = .ref a ∧ SqT X.K H1 a xs ∧ ∀ p, H1 p = none → Q (.ref p) (upd H1 p (.tup xs.reverse))) ∨ (∃ a xs, x = .ref a ∧ SqL X.K H1 a xs ∧ ∀ p, H1 p = none → Q (.ref p) (upd H1 p (.lst xs.reverse)))) := by
  intro pins s σ H Q I h
  refine Subscript_ (thn (he pins s σ H _ I h) fun v s1 ⟨x, H1, I1, r1, q1⟩ => ?_)
  have neg : PE X (.UnaryOp .USub (.Constant (.int 1) k cp) up) (fun σ H Q => Q (.int (-1)) H) := PE.of (pe_un un_neg pe_int) fun σ H Q q => ⟨1, rfl, q⟩
  refine wpAny_Slice ?_
  rw [evalPart_none, evalPart_some]
  refine wpAny_pure (wpAny_pure (thn (neg pins s1 σ H1 (fun y H2 => y = .int (-1) ∧ H2 = H1) I1 ⟨rfl, rfl⟩) fun vs s2 ⟨y, H2, I2, r2, e1, e2⟩ => ?_))
  subst e1 e2
  obtain ⟨t, rfl⟩ := r2
  have I4 : Inv X pins σ H2 { s2 with heap := s2.heap.push { cls := .type "slice", data := .fields #[.none, .none, .int (-1) t] } } := I2.kept (t' := s2.toks) fun b ob q => Heap.get?_push_of_some _ q
  rcases q1 with ⟨a, xs, rfl, hx, q⟩ | ⟨a, xs, rfl, hx, q⟩
  · cases r1
    obtain ⟨its, r, ht, hz⟩ := I4.tuple hx
    show wpAny (model X.prog X.w) X.A (subscriptTail e (.Slice none none (some (.UnaryOp .USub (.Constant (.int 1) k cp) up)) p2) (.ref a) (.ref s2.heap.objs.size)) (EP X pins σ Q) X.xe _
    refine tail_any (ops := [.ref a, .ref s2.heap.objs.size]) ht.typeIs PyProof.Rows.slot_tuple_getitem.lookup ?_ (by with_unfolding_all rfl)
    refine getItem_rev ht (Heap.IsSliceOf.new ..) ?_ (by rw [List.size_toArray, ← r.length]; exact hz)
    refine ⟨.ref _, _, I4.laid (t' := s2.toks) (o := .tup xs.reverse) (fun b ob q => Heap.get?_push_of_some _ q) (Nat.le_refl _) ?_, rfl, q _ (I4.hok.fresh (Nat.le_refl _))⟩
    exact ⟨by rw [List.length_reverse]; exact hz, _, r.reverse, IsTup.new _ _, _, Heap.get?_push_size _ rfl, rfl⟩
  · cases r1
    obtain ⟨its, r, ht, hz⟩ := I4.list hx
    show wpAny (model X.prog X.w) X.A (subscriptTail e (.Slice none none (some (.UnaryOp .USub (.Constant (.int 1) k cp) up)) p2) (.ref a) (.ref s2.heap.objs.size)) (EP X pins σ Q) X.xe _
    refine tail_any (ops := [.ref a, .ref s2.heap.objs.size]) ht.isList.typeIs slot_list_getitem.lookup ?_ (by with_unfolding_all rfl)
    refine wpAny_getItem_list_slice (lo := none) (hi := none) (st := some (-1)) ht.isList (Heap.IsSliceOf.new ..) .none .none (.int _ _) (by decide) ?_ (by rw [List.size_toArray, ← r.length]; exact hz)
    rw [pick_revL]
    refine ⟨.ref _, _, I4.laid (t' := s2.toks) (o := .lst xs.reverse) (fun b ob q => Heap.get?_push_of_some _ q) (Nat.le_refl _) ?_, rfl, q _ (I4.hok.fresh (Nat.le_refl _))⟩
    exact ⟨by rw [List.length_reverse]; exact hz, _, 0, r.reverse, Heap.get?_push_size _ rfl⟩
def eRevA (f : EF) : EF := fun σ h => (f σ h).bind fun x h1 => match x with
  | .tup xs => .ok (.tup xs.reverse) h1
  | .ref n => (match h1[n]? with | some (.lst xs) => newL xs.reverse h1 | _ => .bad)
  | _ => .bad
theorem se_revA {e : Expr} {f : EF} {k : Nat} {cp up p2 pos : Pos} (he : SE X e f) : SE X (.Subscript e (.Slice none none (some (.UnaryOp .USub (.Constant (.int 1) k cp) up)) p2) pos) (eRevA f) := ⟨PE.of (pe_revL he.out) fun σ H Q q => by
  obtain ⟨ρ, σa, h, v, h', rh, rs, e, kk⟩ := q
  obtain ⟨x, h1, e1, e⟩ := bind_eq e
  refine ⟨ρ, σa, h, x, h1, rh, rs, e1, fun ρ1 x' H1 p1 rh1 rx => ?_⟩
  split at e
  · cases e
    cases rx with
    | tup hs r => exact .inl ⟨_, _, rfl, hs, fun p hp => kk _ _ _ (p1.trans (Ext.upd (.inl hp))) (rh1.laid hp) (.newTup r.rev hp)⟩
  · split at e
    · rename_i xs q
      cases e
      cases rx with
      | ref hr =>
        obtain ⟨zs, hz, rz⟩ := rh1.ob _ _ _ q hr
        refine .inr ⟨_, _, rfl, SqL.of hz, fun p hp => ?_⟩
        obtain ⟨a, b, c⟩ := newL_ok rh1 rz.rev hp
        exact kk _ _ _ (p1.trans a) b c
    · cases e
  · cases e⟩
end
end EV
set_option Elab.async false
set_option linter.all false
set_option autoImplicit false
set_option maxRecDepth 100000
namespace EV
open PySem PySem.Spec PyProof.Rows L2
section
variable {X : Cx} {tg : Expr}
open Classical in
theorem SG.mono {ws ws' : List Nat} {g : GF} (h : SG X tg ws g) (s : ∀ i ∈ ws, i ∈ ws') : SG X tg ws' g := ⟨PG.of h.out fun v σ H Q q => by
  obtain ⟨ρ, σa, h, d, σa', h', rh, rs, rv, e, k⟩ := q
  exact ⟨ρ, σa, h, d, σa', h', rh, rs, rv, e, fun ρ' σ' H' p rh' rs' o => k ρ' σ' H' p rh' rs' ⟨o.len, fun i hi => o.eq i fun z => hi (s i z)⟩⟩⟩
end
end EV
set_option Elab.async false
set_option linter.all false
set_option autoImplicit false
set_option maxRecDepth 100000
namespace EV
open PySem L2
theorem cut_app {h h1 g : AH} {v : D} (e : h1.length = h.length) (hv : below h.length v = true) (ho : ∀ i, i < h.length → h1[i]? = h[i]? ∨ ∃ o, h1[i]? = some o ∧ belowO h.length o = true) : cut h (h1 ++ g) v = h1 := by
  have c : Clean h (h1 ++ g) v := ⟨hv, fun i hi => by rw [List.getElem?_append_left (by omega)]; exact ho i hi⟩
  unfold cut
  rw [if_pos c, ← e]
  exact List.take_left
theorem cut_ref {h h' : AH} {n : Nat} (hn : h.length ≤ n) : cut h h' (.ref n) = h' := by
  unfold cut
  rw [if_neg]
  intro c
  have := c.1
  simp [below] at this
  omega
theorem oMul_l {i j : Int} {h : AH} (h1 : -18446744073709551616 < i) (h2 : i < 18446744073709551616) : oMul (.int i) (.int j) h = .ok (.int (i * j)) h := by
  unfold oMul oI
  exact if_pos (.inl (.inl ⟨h1, h2⟩))
theorem oMul_r {i j : Int} {h : AH} (h1 : -18446744073709551616 < j) (h2 : j < 18446744073709551616) : oMul (.int i) (.int j) h = .ok (.int (i * j)) h := by
  unfold oMul oI
  exact if_pos (.inl (.inr ⟨h1, h2⟩))
theorem log2_9000 {n : Nat} (h : n < 2 ^ 9000) : n.log2 < 9000 := by
  rcases Nat.eq_zero_or_pos n with rfl | hp
  · decide
  · exact (Nat.log2_lt (Nat.ne_of_gt hp)).mpr h
theorem oFdiv_b {i j : Int} {h : AH} (h1 : 0 < j) (h2 : j.natAbs < 2 ^ 9000) : oFdiv (.int i) (.int j) h = .ok (.int (i / j)) h := by
  unfold oFdiv oI
  show (if CDivF i j then R.ok (D.int (i.fdiv j)) h else .bad) = _
  rw [if_pos ⟨by omega, log2_9000 h2⟩, Int.fdiv_eq_ediv_of_nonneg _ (by omega)]
theorem pow64_9000 : (2 : Nat) ^ 64 ≤ 2 ^ 9000 := Nat.pow_le_pow_right (by decide) (by decide)
theorem oFdiv_p {i j : Int} {h : AH} (h1 : 0 < j) (h2 : j < 18446744073709551616) : oFdiv (.int i) (.int j) h = .ok (.int (i / j)) h :=
  oFdiv_b h1 (Nat.lt_of_lt_of_le (by show j.natAbs < 2 ^ 64; omega) pow64_9000)
theorem oMod_p {i j : Int} {h : AH} (h1 : 0 < j) : oMod (.int i) (.int j) h = .ok (.int (i % j)) h := by
  unfold oMod oI
  show (if j ≠ 0 then R.ok (D.int (i.fmod j)) h else .bad) = _
  rw [if_pos (by omega), Int.fmod_eq_emod_of_nonneg _ (by omega)]
theorem oPow_s {i j : Int} {h : AH} (h0 : 0 ≤ j) (h1 : j ≤ 1000000) (h2 : i.natAbs < 18446744073709551616) : oPow (.int i) (.int j) h = .ok (.int (i ^ j.toNat)) h := by
  unfold oPow oI
  exact if_pos ⟨h0, h1, h2⟩
theorem oSub_i {i j : Int} {h : AH} : oSub (.int i) (.int j) h = .ok (.int (i - j)) h := id rfl
theorem oLt_i {i j : Int} {h : AH} : oLt (.int i) (.int j) h = .ok (.bl (decide (i < j))) h := id rfl
theorem oLe_i {i j : Int} {h : AH} : oLe (.int i) (.int j) h = .ok (.bl (decide (i ≤ j))) h := id rfl
theorem oGt_i {i j : Int} {h : AH} : oGt (.int i) (.int j) h = .ok (.bl (decide (j < i))) h := id rfl
theorem oGe_i {i j : Int} {h : AH} : oGe (.int i) (.int j) h = .ok (.bl (decide (j ≤ i))) h := id rfl
theorem eBin_d {o : Op2} {f g : EF} {σ : Fr} {h : AH} : eBin o f g σ h = (f σ h).bind fun x h1 => (g σ h1).bind fun y h2 => o x y h2 := id rfl
theorem eK_d {d : D} {σ : Fr} {h : AH} : eK d σ h = .ok d h := id rfl
theorem eVar_d {i : Nat} {σ : Fr} {h : AH} : eVar i σ h = match σ[i]? with | some (some d) => .ok d h | _ => .bad := id rfl
theorem eVar_k {i : Nat} {σ : Fr} {h : AH} {d : D} (e : σ[i]? = some (some d)) : eVar i σ h = .ok d h := by simp only [eVar, e]
theorem aCons_d {f : EF} {g : AF} {σ : Fr} {h : AH} : aCons f g σ h = (f σ h).bind fun x h1 => (g σ h1).bind fun xs h2 => .ok (x :: xs) h2 := id rfl
theorem aNil_d {σ : Fr} {h : AH} : aNil σ h = .ok [] h := id rfl
theorem eApp_d {o : BF} {f : AF} {σ : Fr} {h : AH} : eApp o f σ h = (f σ h).bind fun xs h1 => o xs h1 := id rfl
theorem sSeq_d {f g : SF} {σ : Fr} {h : AH} : sSeq f g σ h = (f σ h).bind fun fl h1 => match fl with | .next σ1 => g σ1 h1 | fl => .ok fl h1 := id rfl
theorem sSet_d {i : Nat} {f : EF} {σ : Fr} {h : AH} : sSet i f σ h = (f σ h).bind fun x h1 => .ok (.next (σ.set i (some x))) h1 := id rfl
theorem sRet_d {f : EF} {σ : Fr} {h : AH} : sRet f σ h = (f σ h).bind fun x h1 => .ok (.ret x) h1 := id rfl
theorem sIf_d {c : TF} {f g : SF} {σ : Fr} {h : AH} : sIf c f g σ h = (c σ h).bind fun b h1 => if b = true then f σ h1 else g σ h1 := id rfl
theorem sNext_d {σ : Fr} {h : AH} : sNext σ h = .ok (.next σ) h := id rfl
theorem tB_d {f : EF} {σ : Fr} {h : AH} : tB f σ h = (f σ h).bind fun x h1 => match x with | .bl b => .ok b h1 | _ => .bad := id rfl
theorem sPut_d {fo fi fv : EF} {σ : Fr} {h : AH} : sPut fo fi fv σ h = (fv σ h).bind fun v h1 => (fo σ h1).bind fun o h2 => (fi σ h2).bind fun i h3 => (setD o i v h3).bind fun _ h4 => .ok (.next σ) h4 := id rfl
theorem bAbs_i {i : Int} {h : AH} : bAbs [.int i] h = .ok (.int (if i < 0 then -i else i)) h := id rfl
theorem oIx_ref {n : Nat} {y : D} {h : AH} {xs : List D} (e : h[n]? = some (.lst xs)) : oIx (.ref n) y h = seqAt xs y h := by simp only [oIx, e]
theorem seqAt_n {xs : List D} {i : Int} {h : AH} {v : D} (h0 : 0 ≤ i) (e : xs[i.toNat]? = some v) : seqAt xs (.int i) h = .ok v h := by
  have hl : i.toNat < xs.length := (List.getElem?_eq_some_iff.mp e).1
  have : atI xs i = some v := by
    unfold atI ixN
    rw [if_pos h0, if_pos (by omega)]
    exact e
  simp only [seqAt, this]
theorem bLen_lst {n : Nat} {h : AH} {xs : List D} (e : h[n]? = some (.lst xs)) : bLen [.ref n] h = .ok (.int xs.length) h := by simp only [bLen, seqOf, e]
theorem tAnd2_d {f g : TF} {σ : Fr} {h : AH} : tAnd2 f g σ h = (f σ h).bind fun b h1 => if b = true then g σ h1 else .ok false h1 := id rfl
theorem tOr2_d {f g : TF} {σ : Fr} {h : AH} : tOr2 f g σ h = (f σ h).bind fun b h1 => if b = true then .ok true h1 else g σ h1 := id rfl
theorem tNot1_d {f : TF} {σ : Fr} {h : AH} : tNot1 f σ h = (f σ h).bind fun b h1 => .ok (!b) h1 := id rfl
theorem eAnd2_d {f g : EF} {σ : Fr} {h : AH} : eAnd2 f g σ h = (f σ h).bind fun x h1 => match x with | .bl true => g σ h1 | .bl false => .ok (.bl false) h1 | _ => .bad := id rfl
theorem eOr2_d {f g : EF} {σ : Fr} {h : AH} : eOr2 f g σ h = (f σ h).bind fun x h1 => match x with | .bl true => .ok (.bl true) h1 | .bl false => g σ h1 | _ => .bad := id rfl
theorem eNot1_d {f : EF} {σ : Fr} {h : AH} : eNot1 f σ h = (f σ h).bind fun x h1 => match x with | .bl b => .ok (.bl (!b)) h1 | _ => .bad := id rfl
theorem eNeg_d {f : EF} {σ : Fr} {h : AH} : eNeg f σ h = (f σ h).bind fun x h1 => match x with | .int i => .ok (.int (-i)) h1 | _ => .bad := id rfl
theorem eLst_d {f : AF} {σ : Fr} {h : AH} : eLst f σ h = (f σ h).bind fun xs h1 => if xs.length ≤ sizeLine then newL xs h1 else .bad := id rfl
theorem eTup_d {f : AF} {σ : Fr} {h : AH} : eTup f σ h = (f σ h).bind fun xs h1 => if xs.length ≤ sizeLine then .ok (.tup xs) h1 else .bad := id rfl
theorem eIsi_d {c : Ty} {f : EF} {σ : Fr} {h : AH} : eIsi c f σ h = (f σ h).bind fun x h1 => match tyD x h1 with | some t => .ok (.bl (isSub t c)) h1 | none => .bad := id rfl
theorem eAppK_d {F : BF} {is : List Nat} {a b : Nat} {f g : AF} {σ : Fr} {h : AH} : eAppK F is a b f g σ h = (f σ h).bind fun xs h1 => (g σ h1).bind fun ys h2 => if xs.length = a ∧ ys.length = b then F (sel is (xs ++ ys)) h2 else .bad := id rfl
theorem oNone_d {σ : Fr} {h : AH} : oNone σ h = .ok none h := id rfl
theorem oSome_d {f : EF} {σ : Fr} {h : AH} : oSome f σ h = (f σ h).bind fun x h1 => match x with | .int i => .ok (some i) h1 | _ => .bad := id rfl
theorem pCons_d {f g : EF} {r : PFs} {σ : Fr} {h : AH} : pCons f g r σ h = (f σ h).bind fun x h1 => (g σ h1).bind fun y h2 => (r σ h2).bind fun ps h3 => .ok ((x, y) :: ps) h3 := id rfl
theorem sPar_d {i j : Nat} {f : AF} {σ : Fr} {h : AH} : sPar i j f σ h = (f σ h).bind fun xs h1 => match xs with | [x, y] => .ok (.next ((σ.set i (some x)).set j (some y))) h1 | _ => .bad := id rfl
theorem sAsg_d {f : EF} {g : GF} {σ : Fr} {h : AH} : sAsg f g σ h = (f σ h).bind fun x h1 => (g x σ h1).bind fun σ1 h2 => .ok (.next σ1) h2 := id rfl
theorem eChain_d {o o' : Op2} {f g k : EF} {σ : Fr} {h : AH} : eChain o o' f g k σ h = (f σ h).bind fun x h1 => (g σ h1).bind fun y h2 => (o x y h2).bind fun z h3 => match z with
  | .bl true => (k σ h3).bind fun w h4 => o' y w h4
  | .bl false => .ok (.bl false) h3
  | _ => .bad := id rfl
theorem seq_n {f g : SF} {σ σ1 : Fr} {h h1 : AH} (e : f σ h = .ok (.next σ1) h1) : sSeq f g σ h = g σ1 h1 := by rw [sSeq_d, e, bind_ok]
theorem seq_r {f g : SF} {σ : Fr} {h h1 : AH} {v : D} (e : f σ h = .ok (.ret v) h1) : sSeq f g σ h = .ok (.ret v) h1 := by rw [sSeq_d, e, bind_ok]
theorem set_n {i : Nat} {f : EF} {σ : Fr} {h h1 : AH} {x : D} (e : f σ h = .ok x h1) : sSet i f σ h = .ok (.next (σ.set i (some x))) h1 := by rw [sSet_d, e, bind_ok]
theorem ret_n {f : EF} {σ : Fr} {h h1 : AH} {x : D} (e : f σ h = .ok x h1) : sRet f σ h = .ok (.ret x) h1 := by rw [sRet_d, e, bind_ok]
theorem if_t {c : TF} {f g : SF} {σ : Fr} {h h1 : AH} (e : c σ h = .ok true h1) : sIf c f g σ h = f σ h1 := by rw [sIf_d, e, bind_ok, if_pos rfl]
theorem if_f {c : TF} {f g : SF} {σ : Fr} {h h1 : AH} (e : c σ h = .ok false h1) : sIf c f g σ h = g σ h1 := by rw [sIf_d, e, bind_ok, if_neg Bool.false_ne_true]
theorem if_fn {c : TF} {f : SF} {σ : Fr} {h h1 : AH} (e : c σ h = .ok false h1) : sIf c f sNext σ h = .ok (.next σ) h1 := by rw [if_f e, sNext_d]
theorem mkFn_ret {np n : Nat} {b : SF} {ds : List D} {h h' : AH} {v : D} (hl : ds.length = np) (e : b (startD n ds) h = .ok (.ret v) h') : mkFn np n b ds h = .ok v (cut h h' v) := by
  unfold mkFn
  rw [if_pos hl, e]
end EV
set_option Elab.async false
set_option linter.all false
set_option autoImplicit false
set_option maxRecDepth 100000
namespace EV
open PySem L2
end EV
set_option Elab.async false
set_option linter.all false
set_option autoImplicit false
set_option maxRecDepth 100000
namespace EV
open PySem L2
def sh (q : Rat) : D := .tup [.int q.num, .int q.den]
structure Sz (k : Nat) (q : Rat) : Prop where
  num : q.num.natAbs < 2 ^ k
  den : q.den < 2 ^ k
theorem Sz.mono {j k : Nat} {q : Rat} (s : Sz j q) (h : j ≤ k) : Sz k q :=
  ⟨Nat.lt_of_lt_of_le s.num (Nat.pow_le_pow_right (by decide) h), Nat.lt_of_lt_of_le s.den (Nat.pow_le_pow_right (by decide) h)⟩
theorem gcd_pos' {a b : Int} (hb : b ≠ 0) : 0 < Int.gcd a b := Nat.pos_of_ne_zero fun h => hb (Int.gcd_eq_zero_iff.mp h).2
theorem divInt_num {a b : Int} (hb : b ≠ 0) : (Rat.divInt a b).num = b.sign * (a / (Int.gcd a b : Int)) := by
  rw [Rat.num_divInt, Int.gcd_comm b a, Int.mul_ediv_assoc _ (Int.gcd_dvd_left a b)]
theorem divInt_den {a b : Int} (hb : b ≠ 0) : (Rat.divInt a b).den = b.natAbs / Int.gcd a b := by
  rw [Rat.den_divInt, if_neg hb, Int.gcd_comm]
theorem Sz.divInt {k : Nat} {a b : Int} (hb : b ≠ 0) (ha : a.natAbs < 2 ^ k) (hb2 : b.natAbs < 2 ^ k) : Sz k (Rat.divInt a b) := by
  have g := gcd_pos' (a := a) hb
  constructor
  · rw [divInt_num hb, Int.natAbs_mul]
    have h1 : b.sign.natAbs = 1 := by
      rcases Int.lt_trichotomy b 0 with h | h | h
      · rw [Int.sign_eq_neg_one_of_neg h]; rfl
      · exact absurd h hb
      · rw [Int.sign_eq_one_of_pos h]; rfl
    rw [h1, Nat.one_mul]
    rw [Int.natAbs_ediv_of_dvd (Int.gcd_dvd_left a b)]
    have := Nat.div_le_self a.natAbs (Int.natAbs (Int.gcd a b : Int))
    omega
  · rw [divInt_den hb]
    have := Nat.div_le_self b.natAbs (Int.gcd a b)
    omega
theorem mul_lt_pow {a b k l : Nat} (ha : a < 2 ^ k) (hb : b < 2 ^ l) : a * b < 2 ^ (k + l) := by
  rw [Nat.pow_add]
  rcases Nat.eq_zero_or_pos b with h | h
  · subst h; rw [Nat.mul_zero]; exact Nat.mul_pos (Nat.two_pow_pos k) (Nat.two_pow_pos l)
  · exact Nat.mul_lt_mul_of_lt_of_le ha (Nat.le_of_lt hb) (Nat.two_pow_pos l)
theorem add_lt_pow {a b k : Nat} (ha : a < 2 ^ k) (hb : b < 2 ^ k) : a + b < 2 ^ (k + 1) := by
  rw [Nat.pow_succ]; omega
theorem pow_le {j k : Nat} (h : j ≤ k) : (2 : Nat) ^ j ≤ 2 ^ k := Nat.pow_le_pow_right (by decide) h
theorem add_is (p q : Rat) : p + q = Rat.divInt (p.num * q.den + q.num * p.den) (p.den * q.den) := by
  have := Rat.divInt_add_divInt p.num q.num (d₁ := p.den) (d₂ := q.den) (by have := p.den_nz; omega) (by have := q.den_nz; omega)
  rwa [Rat.num_divInt_den, Rat.num_divInt_den] at this
theorem mul_is (p q : Rat) : p * q = Rat.divInt (p.num * q.num) (p.den * q.den) := by
  have := Rat.divInt_mul_divInt p.num q.num (d₁ := p.den) (d₂ := q.den)
  rwa [Rat.num_divInt_den, Rat.num_divInt_den] at this
theorem den_ne (p q : Rat) : ((p.den : Int) * (q.den : Int)) ≠ 0 := by
  have h1 := p.den_nz
  have h2 := q.den_nz
  exact Int.mul_ne_zero (by omega) (by omega)
theorem Sz.add {k l : Nat} {p q : Rat} (a : Sz k p) (b : Sz l q) : Sz (k + l + 1) (p + q) := by
  rw [add_is]
  refine Sz.divInt (den_ne p q) ?_ ?_
  · have h1 : (p.num * (q.den : Int)).natAbs < 2 ^ (k + l) := by rw [Int.natAbs_mul]; exact mul_lt_pow a.num b.den
    have h2 : (q.num * (p.den : Int)).natAbs < 2 ^ (k + l) := by rw [Int.natAbs_mul, Nat.add_comm k l]; exact mul_lt_pow b.num a.den
    have h3 := Int.natAbs_add_le (p.num * (q.den : Int)) (q.num * (p.den : Int))
    have := add_lt_pow h1 h2
    omega
  · rw [Int.natAbs_mul]
    exact Nat.lt_of_lt_of_le (mul_lt_pow a.den b.den) (pow_le (by omega))
theorem Sz.mul {k l : Nat} {p q : Rat} (a : Sz k p) (b : Sz l q) : Sz (k + l) (p * q) := by
  rw [mul_is]
  refine Sz.divInt (den_ne p q) ?_ ?_
  · rw [Int.natAbs_mul]; exact mul_lt_pow a.num b.num
  · rw [Int.natAbs_mul]; exact mul_lt_pow a.den b.den
theorem toP_int {h : AH} {i : Int} : toP h deep (.int i) = some (.int i) := by show toP h (39 + 1) (.int i) = _; simp only [toP]
theorem shaped_int {i : Int} : SeqAt.shaped (.int i) = true := rfl
theorem oNe_i {i j : Int} {h : AH} : oNe (.int i) (.int j) h = .ok (.bl (!(i == j))) h := by
  show dataOp _ (D.int i) (D.int j) h = _
  simp only [dataOp, toP_int]
  rw [if_pos ⟨shaped_int, shaped_int⟩]
  rfl
theorem oEq_i {i j : Int} {h : AH} : oEq (.int i) (.int j) h = .ok (.bl (i == j)) h := by
  show dataOp _ (D.int i) (D.int j) h = _
  simp only [dataOp, toP_int]
  rw [if_pos ⟨shaped_int, shaped_int⟩]
  rfl
theorem gcd_step (n m : Int) (hn : 0 ≤ n) (hm : 0 < m) : Int.gcd m (n % m) = Int.gcd n m := by
  unfold Int.gcd
  have : (n % m).natAbs = n.natAbs % m.natAbs := by
    rw [Int.natAbs_emod_of_nonneg hn]
  rw [this, Nat.gcd_comm, ← Nat.gcd_rec, Nat.gcd_comm]
theorem gcd_abs (a b : Int) : Int.gcd (if a < 0 then -a else a) (if b < 0 then -b else b) = Int.gcd a b := by
  split <;> split <;> simp
theorem div_num {a b : Int} (hb : b ≠ 0) : (Rat.divInt a b).num = if b < 0 then a / -(Int.gcd a b : Int) else a / (Int.gcd a b : Int) := by
  rw [divInt_num hb]
  split
  · rename_i h
    rw [Int.sign_eq_neg_one_of_neg h, Int.ediv_neg]; omega
  · rw [Int.sign_eq_one_of_pos (by omega), Int.one_mul]
theorem div_den {a b : Int} (hb : b ≠ 0) : ((Rat.divInt a b).den : Int) = if b < 0 then b / -(Int.gcd a b : Int) else b / (Int.gcd a b : Int) := by
  rw [divInt_den hb]
  split
  · rename_i h
    have hd : (Int.gcd a b : Int) ∣ b := Int.gcd_dvd_right a b
    rw [Int.ediv_neg]
    have e : b = -(b.natAbs : Int) := by omega
    obtain ⟨k, hk⟩ := hd
    have hg := gcd_pos' (a := a) hb
    have e2 : b / (Int.gcd a b : Int) = k := by
      conv => lhs; lhs; rw [hk]
      exact Int.mul_ediv_cancel_left _ (by omega)
    rw [e2]
    have e3 : b.natAbs = Int.gcd a b * k.natAbs := by
      have := congrArg Int.natAbs hk
      rw [Int.natAbs_mul] at this
      simpa using this
    rw [e3, Nat.mul_div_cancel_left _ hg]
    have hk0 : k < 0 := by
      apply Int.not_le.mp
      intro hk0
      have := Int.mul_nonneg (show (0 : Int) ≤ (Int.gcd a b : Int) by omega) hk0
      omega
    omega
  · rename_i h
    have e : b = (b.natAbs : Int) := by omega
    conv => rhs; lhs; rw [e]
    simp
structure SeqIs (x : D) (h : AH) (xs : List D) : Prop where
  ex : ∃ s, srcD x h = .ok s h ∧ s.items = xs ∧ s.chk h
theorem SeqIs.tup {h : AH} {xs : List D} : SeqIs (.tup xs) h xs := ⟨still xs, rfl, rfl, trivial⟩
theorem SeqIs.ref {h : AH} {n : Nat} {xs : List D} (e : h[n]? = some (.lst xs)) : SeqIs (.ref n) h xs := ⟨held n xs, by simp only [srcD, e], rfl, e⟩
def sumQ (qs : List Rat) : Rat := qs.foldl (· + ·) 0
theorem fold_take {α β : Type} {f : β → α → β} {z : β} {qs : List α} {i : Nat} {q : α} (e : qs[i]? = some q) : (qs.take (i + 1)).foldl f z = f ((qs.take i).foldl f z) q := by
  rw [List.take_add_one, e]
  simp
theorem Sz.one : Sz 1 1 := ⟨by decide, by decide⟩
theorem Sz.zero : Sz 1 0 := ⟨by decide, by decide⟩
theorem Sz.sum {k : Nat} {qs : List Rat} (hq : ∀ q ∈ qs, Sz k q) : ∀ i, i ≤ qs.length → Sz ((k + 1) * i + 1) (sumQ (qs.take i))
  | 0, _ => Sz.zero
  | i + 1, hi => by
    have e : qs[i]? = some qs[i] := List.getElem?_eq_getElem (by omega)
    unfold sumQ
    rw [fold_take e]
    exact ((Sz.sum hq i (by omega)).add (hq _ (List.getElem_mem _))).mono (by rw [Nat.mul_succ]; omega)
theorem divInt_same {a b c : Int} (hc : c ≠ 0) : Rat.divInt a c + Rat.divInt b c = Rat.divInt (a + b) c := by
  rw [Rat.divInt_add_divInt _ _ hc hc, ← Int.add_mul, Rat.divInt_mul_right hc]
def shP (q : Rat) : PyData := .tuple [.int q.num, .int q.den]
theorem log2_of {n k : Nat} (h : n < 2 ^ k) (hk : 0 < k) : n.log2 < k := by
  rcases Nat.eq_zero_or_pos n with rfl | hp
  · simpa using hk
  · exact (Nat.log2_lt (Nat.ne_of_gt hp)).mpr h
theorem weight_int {i : Int} {k : Nat} (h : i.natAbs < 2 ^ k) (hk : 0 < k) : PyData.weight (.int i) ≤ k := by
  simp only [PyData.weight]
  split
  · omega
  · have := log2_of h hk; omega
end EV
set_option Elab.async false
set_option linter.all false
set_option autoImplicit false
set_option maxRecDepth 100000
namespace EV
open PySem L2
theorem gSeq_d {n : Nat} {g : GFs} {d : D} {σ : Fr} {h : AH} : gSeq n g d σ h = match seqOf d h with | some xs => if xs.length = n then g xs σ h else .bad | none => .bad := id rfl
theorem gsCons_d {g : GF} {r : GFs} {d : D} {ds : List D} {σ : Fr} {h : AH} : gsCons g r (d :: ds) σ h = (g d σ h).bind fun σ1 h1 => r ds σ1 h1 := id rfl
theorem eqv_sh {p q : Rat} : PyData.eqv (shP p) (shP q) = decide (p = q) := by
  by_cases e : p = q
  · subst e
    rw [decide_eq_true rfl]
    simp [shP, PyData.eqv, PyData.eqvAll]
  · rw [decide_eq_false e]
    simp only [shP, PyData.eqv, PyData.eqvAll]
    apply Bool.eq_false_iff.mpr
    intro z
    apply e
    simp only [Bool.and_eq_true, Bool.and_true, beq_iff_eq, decide_eq_true_eq] at z
    exact Rat.ext z.1 (by omega)
theorem Sz.neg {k : Nat} {q : Rat} (s : Sz k q) : Sz k (-q) := ⟨by rw [Rat.neg_num, Int.natAbs_neg]; exact s.num, by rw [Rat.neg_den]; exact s.den⟩
theorem Sz.sub {k l : Nat} {p q : Rat} (a : Sz k p) (b : Sz l q) : Sz (k + l + 1) (p - q) := by rw [Rat.sub_eq_add_neg]; exact a.add b.neg
theorem lt_dec {p q : Rat} : decide (p.num * (q.den : Int) < q.num * (p.den : Int)) = decide (p < q) := by
  by_cases e : p < q
  · rw [decide_eq_true e, decide_eq_true ((Rat.lt_iff p q).mp e)]
  · rw [decide_eq_false e, decide_eq_false fun z => e ((Rat.lt_iff p q).mpr z)]
end EV
set_option Elab.async false
set_option linter.all false
set_option autoImplicit false
set_option maxRecDepth 100000
namespace EV
open PySem L2
end EV
set_option Elab.async false
set_option linter.all false
set_option autoImplicit false
set_option maxRecDepth 100000
namespace EV
open PySem L2
end EV
set_option Elab.async false
set_option linter.all false
set_option autoImplicit false
set_option maxRecDepth 100000
namespace EV
open PySem L2
def Still (h h' : AH) : Prop := ∀ (i : Nat) (o : AO), h[i]? = some o → ((∃ xs, o = .lst xs) ∨ o = .dct []) → h'[i]? = some o
mutual
theorem toPz_keep {h h' : AH} (k : Still h h') : ∀ (n : Nat) (d : D) (p : PyData), toPz h n d = some p → toPz h' n d = some p
  | 0, _, _, e => by simp [toPz] at e
  | n + 1, .non, _, e => by simp [toPz] at e ⊢; exact e
  | n + 1, .bl b, _, e => by simp [toPz] at e ⊢; exact e
  | n + 1, .int i, _, e => by simp [toPz] at e ⊢; exact e
  | n + 1, .str x, _, e => by simp [toPz] at e ⊢; exact e
  | n + 1, .tup xs, _, e => by
    simp only [toPz, Option.map_eq_some_iff] at e ⊢
    obtain ⟨ds, e, rfl⟩ := e
    exact ⟨ds, toPzs_keep k n xs ds e, rfl⟩
  | n + 1, .fz xs, _, e => by
    simp only [toPz, Option.map_eq_some_iff] at e ⊢
    obtain ⟨ds, e, rfl⟩ := e
    exact ⟨ds, toPzs_keep k n xs ds e, rfl⟩
  | n + 1, .ref m, p, e => by
    simp only [toPz] at e ⊢
    split at e
    · rename_i xs q
      rw [k m _ q (.inl ⟨xs, rfl⟩)]
      simp only [Option.map_eq_some_iff] at e ⊢
      obtain ⟨ds, e, rfl⟩ := e
      exact ⟨ds, toPzs_keep k n xs ds e, rfl⟩
    · rename_i q
      rw [k m _ q (.inr rfl)]
      exact e
    · cases e
theorem toPzs_keep {h h' : AH} (k : Still h h') : ∀ (n : Nat) (ds : List D) (ps : List PyData), toPzs h n ds = some ps → toPzs h' n ds = some ps
  | 0, _, _, e => by simp [toPzs] at e
  | n + 1, [], _, e => by simp [toPzs] at e ⊢; exact e
  | n + 1, x :: xs, _, e => by
    simp only [toPzs] at e ⊢
    split at e
    · rename_i d ds e1 e2
      rw [toPz_keep k (n + 1) x d e1, toPzs_keep k (n + 1) xs ds e2]
      exact e
    · cases e
end
mutual
theorem toPz_more {h : AH} : ∀ (n : Nat) (d : D) (p : PyData), toPz h n d = some p → toPz h (n + 1) d = some p
  | 0, _, _, e => by simp [toPz] at e
  | n + 1, .non, _, e => by simp [toPz] at e ⊢; exact e
  | n + 1, .bl b, _, e => by simp [toPz] at e ⊢; exact e
  | n + 1, .int i, _, e => by simp [toPz] at e ⊢; exact e
  | n + 1, .str x, _, e => by simp [toPz] at e ⊢; exact e
  | n + 1, .tup xs, _, e => by
    simp only [toPz, Option.map_eq_some_iff] at e ⊢
    obtain ⟨ds, e, rfl⟩ := e
    exact ⟨ds, toPzs_more n xs ds e, rfl⟩
  | n + 1, .fz xs, _, e => by
    simp only [toPz, Option.map_eq_some_iff] at e ⊢
    obtain ⟨ds, e, rfl⟩ := e
    exact ⟨ds, toPzs_more n xs ds e, rfl⟩
  | n + 1, .ref m, p, e => by
    simp only [toPz] at e ⊢
    split at e
    · rename_i xs q
      simp only [Option.map_eq_some_iff] at e ⊢
      obtain ⟨ds, e, rfl⟩ := e
      exact ⟨ds, toPzs_more n xs ds e, rfl⟩
    · exact e
    · cases e
theorem toPzs_more {h : AH} : ∀ (n : Nat) (ds : List D) (ps : List PyData), toPzs h n ds = some ps → toPzs h (n + 1) ds = some ps
  | 0, _, _, e => by simp [toPzs] at e
  | n + 1, [], _, e => by simp [toPzs] at e ⊢; exact e
  | n + 1, x :: xs, _, e => by
    simp only [toPzs] at e ⊢
    split at e
    · rename_i d ds e1 e2
      rw [toPz_more (n + 1) x d e1, toPzs_more (n + 1) xs ds e2]
      exact e
    · cases e
end
theorem toPz_le {h : AH} {n m : Nat} {d : D} {p : PyData} (e : toPz h n d = some p) (l : n ≤ m) : toPz h m d = some p := by
  induction l with
  | refl => exact e
  | step _ ih => exact toPz_more _ _ _ ih
mutual
def tinyZ : PyData → Bool
  | .none | .bool _ => true
  | .int i => decide (i.natAbs.log2 < 1920)
  | .str x => x.cps.toList.all fun c => decide (c < 1114112)
  | .list xs | .tuple xs => tinyZs xs
  | .dict [] => true
  | .dict (_ :: _) => false
def tinyZs : List PyData → Bool
  | [] => true
  | x :: xs => tinyZ x && tinyZs xs
end
mutual
theorem tinyZ_showable : ∀ d : PyData, tinyZ d = true → d.showable = true
  | .none, _ => rfl
  | .bool _, _ => rfl
  | .int i, h => by simpa [tinyZ, PyData.showable] using h
  | .str x, _ => rfl
  | .list xs, h => by simpa only [PyData.showable] using tinyZs_showable xs (by simpa only [tinyZ] using h)
  | .tuple xs, h => by simpa only [PyData.showable] using tinyZs_showable xs (by simpa only [tinyZ] using h)
  | .dict [], _ => by simp only [PyData.showable, PyData.showableKv]
  | .dict (_ :: _), h => by simp [tinyZ] at h
theorem tinyZs_showable : ∀ xs : List PyData, tinyZs xs = true → PyData.showableAll xs = true
  | [], _ => rfl
  | x :: xs, h => by
    simp only [tinyZs, Bool.and_eq_true] at h
    simp only [PyData.showableAll, Bool.and_eq_true]
    exact ⟨tinyZ_showable x h.1, tinyZs_showable xs h.2⟩
end
mutual
theorem tinyZ_short : ∀ d : PyData, tinyZ d = true → d.leavesShort 1922 = true
  | .none, _ => rfl
  | .bool _, _ => rfl
  | .int i, h => by
    simp only [tinyZ, decide_eq_true_eq] at h
    simp only [PyData.leavesShort, decide_eq_true_eq]
    have := int_text_length_le (k := 1920) (by decide) h
    show (Str.ofString (toString i)).length ≤ 1922
    rw [ofString_length]; omega
  | .str x, h => by
    simp only [tinyZ, List.all_eq_true, decide_eq_true_eq] at h
    simp only [PyData.leavesShort, List.all_eq_true, decide_eq_true_eq]
    exact fun c hc => Nat.lt_trans (h c hc) (by decide)
  | .list xs, h => by simpa only [PyData.leavesShort] using tinyZs_short xs (by simpa only [tinyZ] using h)
  | .tuple xs, h => by simpa only [PyData.leavesShort] using tinyZs_short xs (by simpa only [tinyZ] using h)
  | .dict [], _ => by simp only [PyData.leavesShort, PyData.leavesShortKv]
  | .dict (_ :: _), h => by simp [tinyZ] at h
theorem tinyZs_short : ∀ xs : List PyData, tinyZs xs = true → PyData.leavesShortAll 1922 xs = true
  | [], _ => rfl
  | x :: xs, h => by
    simp only [tinyZs, Bool.and_eq_true] at h
    simp only [PyData.leavesShortAll, Bool.and_eq_true]
    exact ⟨tinyZ_short x h.1, tinyZs_short xs h.2⟩
end
theorem bReprZ_ok {x : D} {h : AH} {d : PyData} (e : toPz h deep x = some d) (ht : tinyZ d = true) (hd : d.depth ≤ 60) (hw : d.weight ≤ 8000) : bReprZ [x] h = .ok (.str d.shown) h := by
  have hz : d.shown.length ≤ sizeLine := by
    have := PyData.shown_le 1922 (by decide) d (tinyZ_short d ht)
    rw [sizeLine_eq]
    omega
  simp only [bReprZ, e]
  exact if_pos ⟨tinyZ_showable d ht, hd, hz⟩
mutual
theorem toPz_depth {h : AH} : ∀ (n : Nat) (d : D) (p : PyData), toPz h n d = some p → p.depth ≤ n
  | 0, _, _, e => by simp [toPz] at e
  | n + 1, .non, _, e => by simp [toPz] at e; subst e; simp only [PyData.depth]; omega
  | n + 1, .bl b, _, e => by simp [toPz] at e; subst e; simp only [PyData.depth]; omega
  | n + 1, .int i, _, e => by simp [toPz] at e; subst e; simp only [PyData.depth]; omega
  | n + 1, .str x, _, e => by simp [toPz] at e; subst e; simp only [PyData.depth]; omega
  | n + 1, .tup xs, _, e => by
    simp only [toPz, Option.map_eq_some_iff] at e
    obtain ⟨ds, e, rfl⟩ := e
    have := toPzs_depth n xs ds e
    simp only [PyData.depth]; omega
  | n + 1, .fz xs, _, e => by
    simp only [toPz, Option.map_eq_some_iff] at e
    obtain ⟨ds, e, rfl⟩ := e
    have := toPzs_depth n xs ds e
    simp only [PyData.depth]; omega
  | n + 1, .ref m, p, e => by
    simp only [toPz] at e
    split at e
    · simp only [Option.map_eq_some_iff] at e
      obtain ⟨ds, e, rfl⟩ := e
      have := toPzs_depth n _ ds e
      simp only [PyData.depth]; omega
    · cases e; simp only [PyData.depth, PyData.depthKv]; omega
    · cases e
theorem toPzs_depth {h : AH} : ∀ (n : Nat) (ds : List D) (ps : List PyData), toPzs h n ds = some ps → PyData.depthAll ps ≤ n
  | 0, _, _, e => by simp [toPzs] at e
  | n + 1, [], _, e => by simp [toPzs] at e; subst e; simp only [PyData.depthAll]; omega
  | n + 1, x :: xs, _, e => by
    simp only [toPzs] at e
    split at e
    · rename_i d ds e1 e2
      cases e
      have h1 := toPz_depth (n + 1) x d e1
      have h2 := toPzs_depth (n + 1) xs ds e2
      simp only [PyData.depthAll]; omega
    · cases e
end
structure Gd (h : AH) (m w : Nat) (d : D) : Prop where
  ex : ∃ p, toPz h m d = some p ∧ tinyZ p = true ∧ p.weight ≤ w
theorem Gd.mono {h : AH} {m n v w : Nat} {d : D} (g : Gd h m v d) (l : m ≤ n) (k : v ≤ w) : Gd h n w d := by
  obtain ⟨p, a, b, c⟩ := g.ex
  exact ⟨p, toPz_le a l, b, by omega⟩
theorem Gd.keep {h h' : AH} {m w : Nat} {d : D} (g : Gd h m w d) (k : Still h h') : Gd h' m w d := by
  obtain ⟨p, a, b, c⟩ := g.ex
  exact ⟨p, toPz_keep k _ _ _ a, b, c⟩
theorem Still.app {h g : AH} : Still h (h ++ g) := fun i o e _ => by rw [List.getElem?_append_left (List.getElem?_eq_some_iff.mp e).1]; exact e
theorem Gd.repr {h : AH} {m w : Nat} {d : D} (g : Gd h m w d) (hm : m ≤ 40) (hw : w ≤ 8000) : ∃ s, ∀ h', Still h h' → bReprZ [d] h' = .ok (.str s) h' := by
  obtain ⟨p, a, b, c⟩ := g.ex
  refine ⟨p.shown, fun h' k => bReprZ_ok (toPz_keep k _ _ _ (toPz_le a hm)) b (Nat.le_trans (toPz_depth _ _ _ a) (by omega)) (by omega)⟩
end EV
set_option Elab.async false
set_option linter.all false
set_option autoImplicit false
set_option maxRecDepth 100000
namespace EV
open PySem PySem.Spec L2
inductive T where
  | non | bl (b : Bool) | int (i : Int) | str (x : Str) | tup (xs : List T) | lst (xs : List T) | dct (kvs : List (T × T)) | pen
  deriving Inhabited
def kT : Key → T
  | .inl i => .int i
  | .inr x => .str x
theorem kT_inj {a b : Key} (e : kT a = kT b) : a = b := by
  cases a <;> cases b <;> simp [kT] at e <;> subst e <;> rfl
mutual
inductive Rd (p : Nat) (B : Nat → Prop) (h : AH) : D → T → Prop
  | non : Rd p B h .non .non
  | bl (b : Bool) : Rd p B h (.bl b) (.bl b)
  | int (i : Int) : Rd p B h (.int i) (.int i)
  | str (x : Str) : Rd p B h (.str x) (.str x)
  | tup {xs : List D} {ts : List T} : Rds p B h xs ts → Rd p B h (.tup xs) (.tup ts)
  | lst {n : Nat} {xs : List D} {ts : List T} : h[n]? = some (.lst xs) → ¬ B n → Rds p B h xs ts → Rd p B h (.ref n) (.lst ts)
  | dct {n : Nat} {xs : List (Key × D)} {ts : List (T × T)} : h[n]? = some (.dct xs) → ¬ B n → Rdk p B h xs ts → Rd p B h (.ref n) (.dct ts)
  | pen : p < h.length → Rd p B h (.ref p) .pen
inductive Rds (p : Nat) (B : Nat → Prop) (h : AH) : List D → List T → Prop
  | nil : Rds p B h [] []
  | cons {x : D} {t : T} {xs : List D} {ts : List T} : Rd p B h x t → Rds p B h xs ts → Rds p B h (x :: xs) (t :: ts)
inductive Rdk (p : Nat) (B : Nat → Prop) (h : AH) : List (Key × D) → List (T × T) → Prop
  | nil : Rdk p B h [] []
  | cons {k : Key} {x : D} {t : T} {xs : List (Key × D)} {ts : List (T × T)} : Rd p B h x t → Rdk p B h xs ts → Rdk p B h ((k, x) :: xs) ((kT k, t) :: ts)
end
section
variable {p : Nat} {B B' : Nat → Prop} {h h' : AH}
mutual
/-- what isn't blocked stays -/
theorem Rd.up (k : ∀ n, n < h.length → ¬ B n → h'[n]? = h[n]?) (hl : h.length ≤ h'.length) : ∀ {d : D} {t : T}, Rd p B h d t → Rd p B h' d t
  | _, _, .non => .non
  | _, _, .bl b => .bl b
  | _, _, .int i => .int i
  | _, _, .str x => .str x
  | _, _, .tup r => .tup (Rds.up k hl r)
  | _, _, .lst e b r => .lst (by rw [k _ (List.getElem?_eq_some_iff.mp e).1 b]; exact e) b (Rds.up k hl r)
  | _, _, .dct e b r => .dct (by rw [k _ (List.getElem?_eq_some_iff.mp e).1 b]; exact e) b (Rdk.up k hl r)
  | _, _, .pen e => .pen (by omega)
theorem Rds.up (k : ∀ n, n < h.length → ¬ B n → h'[n]? = h[n]?) (hl : h.length ≤ h'.length) : ∀ {d : List D} {t : List T}, Rds p B h d t → Rds p B h' d t
  | _, _, .nil => .nil
  | _, _, .cons a b => .cons (Rd.up k hl a) (Rds.up k hl b)
theorem Rdk.up (k : ∀ n, n < h.length → ¬ B n → h'[n]? = h[n]?) (hl : h.length ≤ h'.length) : ∀ {d : List (Key × D)} {t : List (T × T)}, Rdk p B h d t → Rdk p B h' d t
  | _, _, .nil => .nil
  | _, _, .cons a b => .cons (Rd.up k hl a) (Rdk.up k hl b)
end
mutual
/-- other things blocked, but none that stood unblocked -/
theorem Rd.blk (k : ∀ n, B' n → B n ∨ h.length ≤ n) : ∀ {d : D} {t : T}, Rd p B h d t → Rd p B' h d t
  | _, _, .non => .non
  | _, _, .bl b => .bl b
  | _, _, .int i => .int i
  | _, _, .str x => .str x
  | _, _, .tup r => .tup (Rds.blk k r)
  | _, _, .lst e b r => .lst e (fun z => by
      rcases k _ z with q | q
      · exact b q
      · have := (List.getElem?_eq_some_iff.mp e).1; omega) (Rds.blk k r)
  | _, _, .dct e b r => .dct e (fun z => by
      rcases k _ z with q | q
      · exact b q
      · have := (List.getElem?_eq_some_iff.mp e).1; omega) (Rdk.blk k r)
  | _, _, .pen e => .pen e
theorem Rds.blk (k : ∀ n, B' n → B n ∨ h.length ≤ n) : ∀ {d : List D} {t : List T}, Rds p B h d t → Rds p B' h d t
  | _, _, .nil => .nil
  | _, _, .cons a b => .cons (Rd.blk k a) (Rds.blk k b)
theorem Rdk.blk (k : ∀ n, B' n → B n ∨ h.length ≤ n) : ∀ {d : List (Key × D)} {t : List (T × T)}, Rdk p B h d t → Rdk p B' h d t
  | _, _, .nil => .nil
  | _, _, .cons a b => .cons (Rd.blk k a) (Rdk.blk k b)
end
mutual
theorem Rd.isBelow : ∀ {d : D} {t : T}, Rd p B h d t → EV.below h.length d = true
  | _, _, .non => rfl
  | _, _, .bl _ => rfl
  | _, _, .int _ => rfl
  | _, _, .str _ => rfl
  | _, _, .tup r => by simpa [EV.below] using Rds.isBelow r
  | _, _, .lst e _ _ => by simpa [EV.below] using (List.getElem?_eq_some_iff.mp e).1
  | _, _, .dct e _ _ => by simpa [EV.below] using (List.getElem?_eq_some_iff.mp e).1
  | _, _, .pen e => by simpa [EV.below] using e
theorem Rds.isBelow : ∀ {d : List D} {t : List T}, Rds p B h d t → EV.belows h.length d = true
  | _, _, .nil => rfl
  | _, _, .cons a b => by simp [EV.belows, Rd.isBelow a, Rds.isBelow b]
end
theorem Rdk.isBelow : ∀ {d : List (Key × D)} {t : List (T × T)}, Rdk p B h d t → EV.belows h.length (d.map (·.2)) = true
  | _, _, .nil => rfl
  | _, _, .cons a b => by simp [EV.belows, Rd.isBelow a, Rdk.isBelow b]
mutual
theorem below_mono {n m : Nat} (l : n ≤ m) : ∀ d : D, EV.below n d = true → EV.below m d = true
  | .non, _ => rfl
  | .bl _, _ => rfl
  | .int _, _ => rfl
  | .str _, _ => rfl
  | .tup xs, e => by simp only [EV.below] at e ⊢; exact belows_mono l xs e
  | .fz xs, e => by simp only [EV.below] at e ⊢; exact belows_mono l xs e
  | .ref k, e => by simp only [EV.below, decide_eq_true_eq] at e ⊢; omega
theorem belows_mono {n m : Nat} (l : n ≤ m) : ∀ d : List D, EV.belows n d = true → EV.belows m d = true
  | [], _ => rfl
  | x :: xs, e => by
    simp only [EV.belows, Bool.and_eq_true] at e ⊢
    exact ⟨below_mono l x e.1, belows_mono l xs e.2⟩
end
theorem belowO_mono {n m : Nat} (l : n ≤ m) {o : AO} (e : belowO n o = true) : belowO m o = true := by
  cases o with
  | lst xs => exact belows_mono l _ e
  | dct xs => exact belows_mono l _ e
def Closed (h : AH) : Prop := ∀ (n : Nat) (o : AO), h[n]? = some o → belowO h.length o = true
theorem Closed.app (c : Closed h) {o : AO} (e : belowO h.length o = true) : Closed (h ++ [o]) := by
  intro n q hq
  by_cases hn : n < h.length
  · rw [List.getElem?_append_left hn] at hq
    exact belowO_mono (by simp) (c n q hq)
  · rw [List.getElem?_append_right (by omega)] at hq
    have : n - h.length = 0 := by
      have := (List.getElem?_eq_some_iff.mp hq).1
      simp at this; omega
    rw [this] at hq
    simp at hq
    subst hq
    exact belowO_mono (by simp) e
theorem Closed.set (c : Closed h) {n : Nat} {o : AO} (e : belowO h.length o = true) : Closed (h.set n o) := by
  intro m q hq
  rw [List.length_set]
  by_cases hn : n = m
  · subst hn
    have := (List.getElem?_eq_some_iff.mp hq).1
    rw [List.length_set] at this
    rw [List.getElem?_set_self this] at hq
    cases hq; exact e
  · rw [List.getElem?_set_ne hn] at hq
    exact c m q hq
mutual
/-- behind a call: what was made within is cut off -/
theorem Rd.cut (c : Closed h) (k : ∀ n, n < h.length → ¬ B n → h'[n]? = h[n]?) (hl : h.length ≤ h'.length) : ∀ {d : D} {t : T}, Rd p B h' d t → EV.below h.length d = true → Rd p B (h'.take h.length) d t
  | _, _, .non, _ => .non
  | _, _, .bl b, _ => .bl b
  | _, _, .int i, _ => .int i
  | _, _, .str x, _ => .str x
  | _, _, .tup r, e => .tup (Rds.cut c k hl r (by simpa [EV.below] using e))
  | _, _, .lst (n := n) e b r, l => by
    have hn : n < h.length := by simpa [EV.below] using l
    have e' := e
    rw [k n hn b] at e'
    exact .lst (by rw [List.getElem?_take_of_lt hn]; exact e) b (Rds.cut c k hl r (c n _ e'))
  | _, _, .dct (n := n) e b r, l => by
    have hn : n < h.length := by simpa [EV.below] using l
    have e' := e
    rw [k n hn b] at e'
    exact .dct (by rw [List.getElem?_take_of_lt hn]; exact e) b (Rdk.cut c k hl r (c n _ e'))
  | _, _, .pen e, l => by
    have hn : p < h.length := by simpa [EV.below] using l
    exact .pen (by rw [List.length_take]; omega)
theorem Rds.cut (c : Closed h) (k : ∀ n, n < h.length → ¬ B n → h'[n]? = h[n]?) (hl : h.length ≤ h'.length) : ∀ {d : List D} {t : List T}, Rds p B h' d t → EV.belows h.length d = true → Rds p B (h'.take h.length) d t
  | _, _, .nil, _ => .nil
  | _, _, .cons a b, e => by
    simp only [EV.belows, Bool.and_eq_true] at e
    exact .cons (Rd.cut c k hl a e.1) (Rds.cut c k hl b e.2)
theorem Rdk.cut (c : Closed h) (k : ∀ n, n < h.length → ¬ B n → h'[n]? = h[n]?) (hl : h.length ≤ h'.length) : ∀ {d : List (Key × D)} {t : List (T × T)}, Rdk p B h' d t → EV.belows h.length (d.map (·.2)) = true → Rdk p B (h'.take h.length) d t
  | _, _, .nil, _ => .nil
  | _, _, .cons a b, e => by
    simp only [List.map_cons, EV.belows, Bool.and_eq_true] at e
    exact .cons (Rd.cut c k hl a e.1) (Rdk.cut c k hl b e.2)
end
theorem Rds.length : ∀ {xs : List D} {ts : List T}, Rds p B h xs ts → xs.length = ts.length
  | _, _, .nil => rfl
  | _, _, .cons _ b => by simp [Rds.length b]
theorem Rds.get : ∀ {xs : List D} {ts : List T} {i : Nat} {t : T}, Rds p B h xs ts → ts[i]? = some t → ∃ d, xs[i]? = some d ∧ Rd p B h d t
  | _, _, _, _, .nil, e => by simp at e
  | _, _, 0, _, .cons a _, e => by simp at e; subst e; exact ⟨_, rfl, a⟩
  | _, _, i + 1, t, .cons _ b, e => by
    obtain ⟨y, h1, h2⟩ := Rds.get (i := i) (t := t) b (by simpa using e)
    exact ⟨y, by simpa using h1, h2⟩
theorem Rds.app : ∀ {xs xs' : List D} {ts ts' : List T}, Rds p B h xs ts → Rds p B h xs' ts' → Rds p B h (xs ++ xs') (ts ++ ts')
  | _, _, _, _, .nil, s => s
  | _, _, _, _, .cons a b, s => .cons a (Rds.app b s)
theorem Rds.set {x : D} {t : T} (r : Rd p B h x t) : ∀ {xs : List D} {ts : List T} (i : Nat), Rds p B h xs ts → Rds p B h (xs.set i x) (ts.set i t)
  | _, _, _, .nil => .nil
  | _, _, 0, .cons _ b => .cons r b
  | _, _, i + 1, .cons a b => .cons a (Rds.set r i b)
theorem Rds.drop : ∀ {xs : List D} {ts : List T} (n : Nat), Rds p B h xs ts → Rds p B h (xs.drop n) (ts.drop n)
  | _, _, 0, h => h
  | _, _, _ + 1, .nil => .nil
  | _, _, n + 1, .cons _ b => Rds.drop n b
theorem Rds.take : ∀ {xs : List D} {ts : List T} (n : Nat), Rds p B h xs ts → Rds p B h (xs.take n) (ts.take n)
  | _, _, 0, _ => .nil
  | _, _, _ + 1, .nil => .nil
  | _, _, n + 1, .cons a b => .cons a (Rds.take n b)
theorem Rds.rev : ∀ {xs : List D} {ts : List T}, Rds p B h xs ts → Rds p B h xs.reverse ts.reverse
  | _, _, .nil => .nil
  | _, _, .cons a b => by
    rw [List.reverse_cons, List.reverse_cons]
    exact Rds.app (Rds.rev b) (.cons a .nil)
theorem Rds.rep {xs : List D} {ts : List T} (r : Rds p B h xs ts) : ∀ n : Nat, Rds p B h (List.replicate n xs).flatten (List.replicate n ts).flatten
  | 0 => .nil
  | n + 1 => by
    rw [List.replicate_succ, List.replicate_succ, List.flatten_cons, List.flatten_cons]
    exact r.app (Rds.rep r n)
theorem Rds.ints : ∀ ns : List Int, Rds p B h (ns.map D.int) (ns.map T.int)
  | [] => .nil
  | n :: ns => .cons (.int n) (Rds.ints ns)
theorem atI_rd {xs : List D} {ts : List T} {i : Int} {t : T} (r : Rds p B h xs ts) (e : atI ts i = some t) : ∃ d, atI xs i = some d ∧ Rd p B h d t := by
  unfold atI at e ⊢
  rw [r.length]
  cases q : ixN ts.length i with
  | none => rw [q] at e; cases e
  | some k =>
    rw [q] at e
    exact r.get e
end
end EV
set_option Elab.async false
set_option linter.all false
set_option autoImplicit false
set_option maxRecDepth 100000
namespace EV
open PySem PySem.Spec L2
structure PenSys where
  Pn : Nat → Nat → AH → Nat → Prop
  loc : ∀ {p q : Nat} {h : AH} {c : Nat}, Pn p q h c → p < h.length ∧ q < h.length ∧ p ≠ q
  keep : ∀ {p q : Nat} {h h' : AH} {c : Nat}, Pn p q h c → h'[p]? = h[p]? → h'[q]? = h[q]? → Pn p q h' c
abbrev TFr := List (Option T)
abbrev QT := T → Nat → Prop
abbrev WE := TFr → Nat → QT → Prop
abbrev WT := TFr → Nat → (Bool → Nat → Prop) → Prop
abbrev WA := TFr → Nat → (List T → Nat → Prop) → Prop
abbrev WO := TFr → Nat → (Option Int → Nat → Prop) → Prop
abbrev WF := List T → Nat → QT → Prop
structure Good (S : PenSys) (p q : Nat) (B : Nat → Prop) (h : AH) (c : Nat) : Prop where
  pn : S.Pn p q h c
  bp : B p
  bq : B q
  al : ∀ n, B n → n < h.length
  cl : Closed h
structure Ge (p : Nat) (h h' : AH) : Prop where
  len : h.length ≤ h'.length
  at_ : ∀ n, n < h.length → n ≠ p → h'[n]? = h[n]?
theorem Ge.refl {p : Nat} {h : AH} : Ge p h h := ⟨Nat.le_refl _, fun _ _ _ => rfl⟩
theorem Ge.trans {p : Nat} {h h1 h2 : AH} (a : Ge p h h1) (b : Ge p h1 h2) : Ge p h h2 :=
  ⟨Nat.le_trans a.len b.len, fun n l ne => by rw [b.at_ n (Nat.lt_of_lt_of_le l a.len) ne, a.at_ n l ne]⟩
theorem Ge.app {p : Nat} {h g : AH} : Ge p h (h ++ g) := ⟨by simp, fun n l _ => List.getElem?_append_left l⟩
section
variable {S : PenSys} {p q L : Nat} {B : Nat → Prop} {h h' : AH} {c c' : Nat}
theorem Ge.k (g : Ge p h h') (bp : B p) : ∀ n, n < h.length → ¬ B n → h'[n]? = h[n]? := fun n l b => g.at_ n l fun e => b (e ▸ bp)
theorem Rd.ge {d : D} {t : T} (r : Rd p B h d t) (g : Ge p h h') (bp : B p) : Rd p B h' d t := r.up (g.k bp) g.len
theorem Rds.ge {d : List D} {t : List T} (r : Rds p B h d t) (g : Ge p h h') (bp : B p) : Rds p B h' d t := r.up (g.k bp) g.len
theorem Rdk.ge {d : List (Key × D)} {t : List (T × T)} (r : Rdk p B h d t) (g : Ge p h h') (bp : B p) : Rdk p B h' d t := r.up (g.k bp) g.len
theorem Good.app (G : Good S p q B h c) {o : AO} (e : belowO h.length o = true) : Good S p q B (h ++ [o]) c := by
  obtain ⟨l1, l2, _⟩ := S.loc G.pn
  exact ⟨S.keep G.pn (List.getElem?_append_left l1) (List.getElem?_append_left l2), G.bp, G.bq, fun n b => by have := G.al n b; simp; omega, G.cl.app e⟩
inductive Own (p : Nat) (B : Nat → Prop) (h : AH) (n : Nat) : T → Prop
  | lst {xs : List D} {ts : List T} : h[n]? = some (.lst xs) → Rds p B h xs ts → Own p B h n (.lst ts)
  | dct {xs : List (Key × D)} {ts : List (T × T)} : h[n]? = some (.dct xs) → Rdk p B h xs ts → Own p B h n (.dct ts)
theorem Own.lt {n : Nat} {t : T} (o : Own p B h n t) : n < h.length := by
  cases o with
  | lst e _ => exact (List.getElem?_eq_some_iff.mp e).1
  | dct e _ => exact (List.getElem?_eq_some_iff.mp e).1
theorem Own.ge {n : Nat} {t : T} (o : Own p B h n t) (g : Ge p h h') (bp : B p) (ne : n ≠ p) : Own p B h' n t := by
  cases o with
  | lst e r => exact .lst (by rw [g.at_ n (List.getElem?_eq_some_iff.mp e).1 ne]; exact e) (r.ge g bp)
  | dct e r => exact .dct (by rw [g.at_ n (List.getElem?_eq_some_iff.mp e).1 ne]; exact e) (r.ge g bp)
def RdX (p : Nat) (B : Nat → Prop) (h : AH) (d : D) (t : T) : Prop := Rd p B h d t ∨ ∃ n, d = .ref n ∧ n ≠ p ∧ Own p B h n t
theorem RdX.ge {d : D} {t : T} (r : RdX p B h d t) (g : Ge p h h') (bp : B p) : RdX p B h' d t := by
  rcases r with r | ⟨n, e, ne, o⟩
  · exact .inl (r.ge g bp)
  · exact .inr ⟨n, e, ne, o.ge g bp ne⟩
structure RF (p : Nat) (B : Nat → Prop) (L : Nat) (O : List Nat) (h : AH) (σ : Fr) (τ : TFr) : Prop where
  len : σ.length = τ.length
  va : ∀ (i : Nat) (t : T), i ∉ O → τ[i]? = some (some t) → ∃ d, σ[i]? = some (some d) ∧ Rd p B h d t
  ow : ∀ (i : Nat) (t : T), i ∈ O → τ[i]? = some (some t) → ∃ n, σ[i]? = some (some (.ref n)) ∧ B n ∧ L ≤ n ∧ Own p B h n t
  nd : ∀ (i j n : Nat) (t u : T), i ∈ O → j ∈ O → i ≠ j → τ[i]? = some (some t) → τ[j]? = some (some u) → σ[i]? = some (some (.ref n)) → σ[j]? = some (some (.ref n)) → False
theorem RF.ge {O : List Nat} {σ : Fr} {τ : TFr} (r : RF p B L O h σ τ) (g : Ge p h h') (bp : B p) (pl : p < L) : RF p B L O h' σ τ := by
  refine ⟨r.len, fun i t ho e => ?_, fun i t ho e => ?_, r.nd⟩
  · obtain ⟨d, h1, h2⟩ := r.va i t ho e
    exact ⟨d, h1, h2.ge g bp⟩
  · obtain ⟨n, h1, h2, h3, h4⟩ := r.ow i t ho e
    exact ⟨n, h1, h2, h3, h4.ge g bp (by omega)⟩
end
variable (S : PenSys)
def JE (O : List Nat) (f : EF) (φ : WE) : Prop := ∀ (p q L : Nat) (B : Nat → Prop) (h : AH) (c : Nat) (σ : Fr) (τ : TFr) (Q : QT), Good S p q B h c → p < L → RF p B L O h σ τ → φ τ c Q →
  ∃ v h' t c', f σ h = .ok v h' ∧ Ge p h h' ∧ Good S p q B h' c' ∧ Rd p B h' v t ∧ Q t c'
def JX (O : List Nat) (f : EF) (φ : WE) : Prop := ∀ (p q L : Nat) (B : Nat → Prop) (h : AH) (c : Nat) (σ : Fr) (τ : TFr) (Q : QT), Good S p q B h c → p < L → RF p B L O h σ τ → φ τ c Q →
  ∃ v h' t c', f σ h = .ok v h' ∧ Ge p h h' ∧ Good S p q B h' c' ∧ RdX p B h' v t ∧ Q t c'
def JN (O : List Nat) (f : EF) (φ : WE) : Prop := ∀ (p q L : Nat) (B : Nat → Prop) (h : AH) (c : Nat) (σ : Fr) (τ : TFr) (Q : QT), Good S p q B h c → p < L → RF p B L O h σ τ → φ τ c Q →
  ∃ n h' t c', f σ h = .ok (.ref n) h' ∧ h.length ≤ n ∧ Ge p h h' ∧ Good S p q B h' c' ∧ Own p (fun m => B m ∨ m = n) h' n t ∧ Q t c'
def JT (O : List Nat) (f : TF) (φ : WT) : Prop := ∀ (p q L : Nat) (B : Nat → Prop) (h : AH) (c : Nat) (σ : Fr) (τ : TFr) (Q : Bool → Nat → Prop), Good S p q B h c → p < L → RF p B L O h σ τ → φ τ c Q →
  ∃ v h' c', f σ h = .ok v h' ∧ Ge p h h' ∧ Good S p q B h' c' ∧ Q v c'
def JA (O : List Nat) (f : AF) (φ : WA) : Prop := ∀ (p q L : Nat) (B : Nat → Prop) (h : AH) (c : Nat) (σ : Fr) (τ : TFr) (Q : List T → Nat → Prop), Good S p q B h c → p < L → RF p B L O h σ τ → φ τ c Q →
  ∃ v h' t c', f σ h = .ok v h' ∧ Ge p h h' ∧ Good S p q B h' c' ∧ Rds p B h' v t ∧ Q t c'
def JO (O : List Nat) (f : OF) (φ : WO) : Prop := ∀ (p q L : Nat) (B : Nat → Prop) (h : AH) (c : Nat) (σ : Fr) (τ : TFr) (Q : Option Int → Nat → Prop), Good S p q B h c → p < L → RF p B L O h σ τ → φ τ c Q →
  ∃ v h' c', f σ h = .ok v h' ∧ Ge p h h' ∧ Good S p q B h' c' ∧ Q v c'
def JF (F : BF) (Φ : WF) : Prop := ∀ (p q : Nat) (B : Nat → Prop) (h : AH) (c : Nat) (ds : List D) (ts : List T) (Q : QT), Good S p q B h c → Rds p B h ds ts → Φ ts c Q →
  ∃ v h' t c', F ds h = .ok v h' ∧ Ge p h h' ∧ Good S p q B h' c' ∧ Rd p B h' v t ∧ Q t c'
def JFN (F : BF) (Φ : WF) : Prop := ∀ (p q : Nat) (B : Nat → Prop) (h : AH) (c : Nat) (ds : List D) (ts : List T) (Q : QT), Good S p q B h c → Rds p B h ds ts → Φ ts c Q →
  ∃ n h' t c', F ds h = .ok (.ref n) h' ∧ h.length ≤ n ∧ Ge p h h' ∧ Good S p q B h' c' ∧ Own p (fun m => B m ∨ m = n) h' n t ∧ Q t c'
section
variable {S : PenSys} {O : List Nat}
theorem Own.rd {p q : Nat} {B : Nat → Prop} {h : AH} {n : Nat} {t : T} (o : Own p (fun m => B m ∨ m = n) h n t) (nb : ¬ B n) : Rd p B h (.ref n) t := by
  cases o with
  | lst e r => exact .lst e nb (r.blk fun m b => .inl (.inl b))
  | dct e r => exact .dct e nb (r.blk fun m b => .inl (.inl b))
theorem JN.e {f : EF} {φ : WE} (j : JN S O f φ) : JE S O f φ := fun p q L B h c σ τ Q G pl r w => by
  obtain ⟨n, h', t, c', e, ln, g, G', o, k⟩ := j p q L B h c σ τ Q G pl r w
  exact ⟨_, h', t, c', e, g, G', o.rd (q := q) fun b => by have := G.al n b; omega, k⟩
theorem JE.x {f : EF} {φ : WE} (j : JE S O f φ) : JX S O f φ := fun p q L B h c σ τ Q G pl r w => by
  obtain ⟨v, h', t, c', e, g, G', o, k⟩ := j p q L B h c σ τ Q G pl r w
  exact ⟨_, h', t, c', e, g, G', .inl o, k⟩
theorem JFN.e {F : BF} {Φ : WF} (j : JFN S F Φ) : JF S F Φ := fun p q B h c ds ts Q G r w => by
  obtain ⟨n, h', t, c', e, ln, g, G', o, k⟩ := j p q B h c ds ts Q G r w
  exact ⟨_, h', t, c', e, g, G', o.rd (q := q) fun b => by have := G.al n b; omega, k⟩
def wVar (i : Nat) : WE := fun τ c Q => match τ[i]? with | some (some t) => Q t c | _ => False
def wK (t : T) : WE := fun _ c Q => Q t c
theorem j_var (i : Nat) (hi : i ∉ O := by decide) : JE S O (eVar i) (wVar i) := fun p q L B h c σ τ Q G pl r w => by
  unfold wVar at w
  split at w
  · rename_i t e
    obtain ⟨d, h1, h2⟩ := r.va i t hi e
    exact ⟨d, h, t, c, eVar_k h1, Ge.refl, G, h2, w⟩
  · exact w.elim
inductive KD : D → T → Prop
  | non : KD .non .non
  | bl (b : Bool) : KD (.bl b) (.bl b)
  | int (i : Int) : KD (.int i) (.int i)
  | str (x : Str) : KD (.str x) (.str x)
theorem j_k {d : D} {t : T} (k : ∀ p B h, Rd p B h d t) : JE S O (eK d) (wK t) := fun p q L B h c σ τ Q G pl r w => ⟨d, h, t, c, rfl, Ge.refl, G, k p B h, w⟩
def wNil : WA := fun _ c Q => Q [] c
def wCons (f : WE) (g : WA) : WA := fun τ c Q => f τ c fun x c1 => g τ c1 fun xs c2 => Q (x :: xs) c2
theorem ja_nil : JA S O aNil wNil := fun p q L B h c σ τ Q G pl r w => ⟨[], h, [], c, rfl, Ge.refl, G, .nil, w⟩
theorem ja_cons {f : EF} {φ : WE} {g : AF} {ψ : WA} (a : JE S O f φ) (b : JA S O g ψ) : JA S O (aCons f g) (wCons φ ψ) := fun p q L B h c σ τ Q G pl r w => by
  obtain ⟨v, h1, t, c1, e1, g1, G1, r1, k1⟩ := a p q L B h c σ τ _ G pl r w
  obtain ⟨vs, h2, ts, c2, e2, g2, G2, r2, k2⟩ := b p q L B h1 c1 σ τ _ G1 pl (r.ge g1 G.bp pl) k1
  exact ⟨v :: vs, h2, t :: ts, c2, by rw [aCons_d, e1, bind_ok, e2, bind_ok], g1.trans g2, G2, .cons (r1.ge g2 G.bp) r2, k2⟩
abbrev V2 := T → T → (T → Prop) → Prop
def O2 (S : PenSys) (o : Op2) (v : V2) : Prop := ∀ (p q : Nat) (B : Nat → Prop) (h : AH) (c : Nat) (x y : D) (a b : T) (Q : T → Prop), Good S p q B h c → RdX p B h x a → RdX p B h y b → v a b Q →
  ∃ z h' t, o x y h = .ok z h' ∧ Ge p h h' ∧ Good S p q B h' c ∧ Rd p B h' z t ∧ Q t
def wBin (v : V2) (f g : WE) : WE := fun τ c Q => f τ c fun x c1 => g τ c1 fun y c2 => v x y fun z => Q z c2
theorem j_bin {o : Op2} {v : V2} {f g : EF} {φ ψ : WE} (s : O2 S o v) (a : JX S O f φ) (b : JX S O g ψ) : JE S O (eBin o f g) (wBin v φ ψ) := fun p q L B h c σ τ Q G pl r w => by
  obtain ⟨x, h1, tx, c1, e1, g1, G1, r1, k1⟩ := a p q L B h c σ τ _ G pl r w
  obtain ⟨y, h2, ty, c2, e2, g2, G2, r2, k2⟩ := b p q L B h1 c1 σ τ _ G1 pl (r.ge g1 G.bp pl) k1
  obtain ⟨z, h3, t, e3, g3, G3, r3, k3⟩ := s p q B h2 c2 x y tx ty _ G2 (r1.ge g2 G.bp) r2 k2
  exact ⟨z, h3, t, c2, by rw [eBin_d, e1, bind_ok, e2, bind_ok, e3], g1.trans (g2.trans g3), G3, r3, k3⟩
def vI (C : Int → Int → Prop) (g : Int → Int → T) : V2 := fun x y Q => match x, y with | .int i, .int j => C i j ∧ Q (g i j) | _, _ => False
theorem RdX.int {p : Nat} {B : Nat → Prop} {h : AH} {d : D} {i : Int} (r : RdX p B h d (.int i)) : d = .int i := by
  rcases r with r | ⟨n, e, ne, o⟩
  · cases r; rfl
  · cases o
theorem RdX.bl {p : Nat} {B : Nat → Prop} {h : AH} {d : D} {i : Bool} (r : RdX p B h d (.bl i)) : d = .bl i := by
  rcases r with r | ⟨n, e, ne, o⟩
  · cases r; rfl
  · cases o
theorem RdX.str {p : Nat} {B : Nat → Prop} {h : AH} {d : D} {i : Str} (r : RdX p B h d (.str i)) : d = .str i := by
  rcases r with r | ⟨n, e, ne, o⟩
  · cases r; rfl
  · cases o
theorem RdX.non {p : Nat} {B : Nat → Prop} {h : AH} {d : D} (r : RdX p B h d .non) : d = .non := by
  rcases r with r | ⟨n, e, ne, o⟩
  · cases r; rfl
  · cases o
theorem RdX.tup {p : Nat} {B : Nat → Prop} {h : AH} {d : D} {ts : List T} (r : RdX p B h d (.tup ts)) : ∃ xs, d = .tup xs ∧ Rds p B h xs ts := by
  rcases r with r | ⟨n, e, ne, o⟩
  · cases r with | tup r => exact ⟨_, rfl, r⟩
  · cases o
theorem RdX.lst {p : Nat} {B : Nat → Prop} {h : AH} {d : D} {ts : List T} (r : RdX p B h d (.lst ts)) : ∃ n xs, Rds p B h xs ts ∧ d = .ref n ∧ h[n]? = some (.lst xs) := by
  rcases r with r | ⟨n, e, ne, o⟩
  · cases r with
    | lst e b r => exact ⟨_, _, r, rfl, e⟩
  · cases o with | lst e' r => exact ⟨n, _, r, e, e'⟩
theorem RdX.dct {p : Nat} {B : Nat → Prop} {h : AH} {d : D} {ts : List (T × T)} (r : RdX p B h d (.dct ts)) : ∃ n xs, Rdk p B h xs ts ∧ d = .ref n ∧ h[n]? = some (.dct xs) := by
  rcases r with r | ⟨n, e, ne, o⟩
  · cases r with
    | dct e b r => exact ⟨_, _, r, rfl, e⟩
  · cases o with | dct e' r => exact ⟨n, _, r, e, e'⟩
theorem RdX.seq {p : Nat} {B : Nat → Prop} {h : AH} {d : D} {ts : List T} (r : RdX p B h d (.lst ts) ∨ RdX p B h d (.tup ts)) : ∃ xs, Rds p B h xs ts ∧ seqOf d h = some xs := by
  rcases r with r | r
  · obtain ⟨n, xs, r, e, e'⟩ := r.lst
    exact ⟨xs, r, by subst e; simp only [seqOf, e']⟩
  · obtain ⟨xs, e, r⟩ := r.tup
    exact ⟨xs, r, by subst e; rfl⟩
theorem o2_I {o : Op2} {C : Int → Int → Prop} {g : Int → Int → T} {g' : Int → Int → D} (ho : ∀ i j h, C i j → o (.int i) (.int j) h = .ok (g' i j) h) (hg : ∀ p B h i j, Rd p B h (g' i j) (g i j)) : O2 S o (vI C g) := fun p q B h c x y a b Q G rx ry w => by
  unfold vI at w
  split at w
  · rename_i i j
    have := rx.int; subst this
    have := ry.int; subst this
    exact ⟨_, h, _, ho i j h w.1, Ge.refl, G, hg p B h i j, w.2⟩
  · exact w.elim
def vSub : V2 := vI (fun _ _ => True) fun i j => .int (i - j)
theorem oMul_c {i j : Int} {h : AH} (c : CMulF i j) : oMul (.int i) (.int j) h = .ok (.int (i * j)) h := if_pos c
def vMod : V2 := vI (fun _ j => j ≠ 0) fun i j => .int (i.fmod j)
theorem o2_mod : O2 S oMod vMod := o2_I (fun i j h c => if_pos c) fun _ _ _ _ _ => .int _
def vPow : V2 := vI CPow fun i j => .int (i ^ j.toNat)
theorem o2_pow : O2 S oPow vPow := o2_I (fun i j h c => if_pos c) fun _ _ _ _ _ => .int _
def vLt : V2 := vI (fun _ _ => True) fun i j => .bl (decide (i < j))
theorem o2_lt : O2 S oLt vLt := o2_I (fun i j h _ => rfl) fun _ _ _ _ _ => .bl _
def vLe : V2 := vI (fun _ _ => True) fun i j => .bl (decide (i ≤ j))
theorem o2_le : O2 S oLe vLe := o2_I (fun i j h _ => rfl) fun _ _ _ _ _ => .bl _
def vGt : V2 := vI (fun _ _ => True) fun i j => .bl (decide (j < i))
theorem o2_gt : O2 S oGt vGt := o2_I (fun i j h _ => rfl) fun _ _ _ _ _ => .bl _
def vGe : V2 := vI (fun _ _ => True) fun i j => .bl (decide (j ≤ i))
theorem o2_ge : O2 S oGe vGe := o2_I (fun i j h _ => rfl) fun _ _ _ _ _ => .bl _
def vAdd : V2 := fun x y Q => match x, y with
  | .int i, .int j => Q (.int (i + j))
  | .tup xs, .tup ys => xs.length + ys.length ≤ sizeLine ∧ Q (.tup (xs ++ ys))
  | .lst xs, .lst ys => xs.length + ys.length ≤ sizeLine ∧ Q (.lst (xs ++ ys))
  | _, _ => False
theorem Good.newL {p q : Nat} {B : Nat → Prop} {h : AH} {c : Nat} {xs : List D} {ts : List T} (G : Good S p q B h c) (r : Rds p B h xs ts) :
    Ge p h (h ++ [.lst xs]) ∧ Good S p q B (h ++ [.lst xs]) c ∧ Own p (fun m => B m ∨ m = h.length) (h ++ [.lst xs]) h.length (.lst ts) := by
  have g : Ge p h (h ++ [.lst xs]) := Ge.app
  refine ⟨g, G.app r.isBelow, .lst (xs := xs) (by rw [List.getElem?_append_right (Nat.le_refl _)]; simp) ?_⟩
  exact (r.blk (B' := fun m => B m ∨ m = h.length) fun n b => by rcases b with b | b; exact .inl b; exact .inr (by omega)).ge g (.inl G.bp)
theorem Good.newL' {p q : Nat} {B : Nat → Prop} {h : AH} {c : Nat} {xs : List D} {ts : List T} (G : Good S p q B h c) (r : Rds p B h xs ts) :
    Ge p h (h ++ [.lst xs]) ∧ Good S p q B (h ++ [.lst xs]) c ∧ Rd p B (h ++ [.lst xs]) (.ref h.length) (.lst ts) := by
  obtain ⟨a, b, o⟩ := G.newL r
  exact ⟨a, b, o.rd (q := q) fun z => by have := G.al _ z; omega⟩
theorem o2_add : O2 S oAddA vAdd := fun p q B h c x y a b Q G rx ry w => by
  unfold vAdd at w
  split at w
  · have := rx.int; subst this
    have := ry.int; subst this
    exact ⟨_, h, _, rfl, Ge.refl, G, .int _, w⟩
  · obtain ⟨xs, rfl, r1⟩ := rx.tup
    obtain ⟨ys, rfl, r2⟩ := ry.tup
    refine ⟨.tup (xs ++ ys), h, _, ?_, Ge.refl, G, .tup (r1.app r2), w.2⟩
    show orOp oAdd (orOp oCatT oCatL) (.tup xs) (.tup ys) h = _
    simp only [orOp, oAdd, oI0, oCatT]
    rw [if_pos (by rw [r1.length, r2.length]; exact w.1)]
  · obtain ⟨n, xs, r1, rfl, e1⟩ := rx.lst
    obtain ⟨m, ys, r2, rfl, e2⟩ := ry.lst
    obtain ⟨g, G', r⟩ := G.newL' (r1.app r2)
    refine ⟨_, _, _, ?_, g, G', r, w.2⟩
    show orOp oAdd (orOp oCatT oCatL) (.ref n) (.ref m) h = _
    simp only [orOp, oAdd, oI0, oCatT, oCatL, e1, e2]
    rw [if_pos (by rw [r1.length, r2.length]; exact w.1)]
    rfl
  · exact w.elim
def vCat : V2 := fun x y Q => match x, y with
  | .lst xs, .lst ys => xs.length + ys.length ≤ sizeLine ∧ Q (.lst (xs ++ ys))
  | _, _ => False
def vMulA : V2 := fun x y Q => match x, y with
  | .int i, .int j => CMulF i j ∧ Q (.int (i * j))
  | .tup xs, .int k => (xs ≠ [] ∧ 1 ≤ k ∧ k < 1000000 ∧ xs.length * k.toNat ≤ sizeLine) ∧ Q (.tup (List.replicate k.toNat xs).flatten)
  | .lst xs, .int k => (0 ≤ k ∧ k < 1000000 ∧ xs.length * k.toNat ≤ sizeLine) ∧ Q (.lst (List.replicate k.toNat xs).flatten)
  | _, _ => False
theorem o2_mulA : O2 S oMulA vMulA := fun p q B h c x y a b Q G rx ry w => by
  unfold vMulA at w
  split at w
  · rename_i i j
    have := rx.int; subst this
    have := ry.int; subst this
    refine ⟨.int (i * j), h, _, ?_, Ge.refl, G, .int _, w.2⟩
    show orOp oMul (orOp oRepT oRepL) (.int i) (.int j) h = _
    unfold orOp
    rw [oMul_c w.1]
  · rename_i ts k
    obtain ⟨xs, rfl, r1⟩ := rx.tup
    have := ry.int; subst this
    refine ⟨_, h, _, ?_, Ge.refl, G, .tup (r1.rep _), w.2⟩
    show orOp oMul (orOp oRepT oRepL) (.tup xs) (.int k) h = _
    simp only [orOp, oMul, oI, oRepT]
    rw [if_pos ⟨fun z => w.1.1 (by subst z; cases r1; rfl), by rw [r1.length]; exact w.1.2⟩]
  · rename_i ts k
    obtain ⟨n, xs, r1, rfl, e1⟩ := rx.lst
    have := ry.int; subst this
    obtain ⟨g, G', r⟩ := G.newL' (r1.rep k.toNat)
    refine ⟨_, _, _, ?_, g, G', r, w.2⟩
    show orOp oMul (orOp oRepT oRepL) (.ref n) (.int k) h = _
    simp only [orOp, oMul, oI, oRepT, oRepL, e1]
    rw [if_pos (by rw [r1.length]; exact w.1)]
    rfl
  · exact w.elim
end
end EV
set_option Elab.async false
set_option linter.all false
set_option autoImplicit false
set_option maxRecDepth 100000
namespace EV
open PySem PySem.Spec L2
mutual
def T.pd : T → PyData
  | .non => .none
  | .bl b => .bool b
  | .int i => .int i
  | .str x => .str x
  | .tup xs => .tuple (T.pds xs)
  | .lst xs => .list (T.pds xs)
  | .dct _ => .dict []
  | .pen => .none
def T.pds : List T → List PyData
  | [] => []
  | x :: xs => T.pd x :: T.pds xs
end
mutual
def T.dep : T → Nat
  | .tup xs => T.deps xs + 1
  | .lst xs => T.deps xs + 1
  | _ => 0
def T.deps : List T → Nat
  | [] => 0
  | x :: xs => max (T.dep x) (T.deps xs)
end
mutual
/-- no dict, no pen -/
def T.plain : T → Bool
  | .tup xs => T.plains xs
  | .lst xs => T.plains xs
  | .str x => PyData.canLay0 (.str x)
  | .dct _ => false
  | .pen => false
  | _ => true
def T.plains : List T → Bool
  | [] => true
  | x :: xs => T.plain x && T.plains xs
end
mutual
/-- no dict but the empty one, no pen -/
def T.repb : T → Bool
  | .tup xs => T.repbs xs
  | .lst xs => T.repbs xs
  | .dct [] => true
  | .dct (_ :: _) => false
  | .pen => false
  | _ => true
def T.repbs : List T → Bool
  | [] => true
  | x :: xs => T.repb x && T.repbs xs
end
section
variable {p : Nat} {B : Nat → Prop} {h : AH}
mutual
theorem Rd.toP : ∀ {d : D} {t : T} (n : Nat), Rd p B h d t → t.plain = true → t.dep ≤ n → EV.toP h (n + 1) d = some t.pd
  | _, _, n, .non, _, _ => by simp [EV.toP, T.pd]
  | _, _, n, .bl b, _, _ => by simp [EV.toP, T.pd]
  | _, _, n, .int b, _, _ => by simp [EV.toP, T.pd]
  | _, _, n, .str b, _, _ => by simp [EV.toP, T.pd]
  | _, _, 0, .tup r, _, l => by simp [T.dep] at l
  | _, _, n + 1, .tup r, a, l => by
    simp only [EV.toP, T.pd, Rds.toP n r (by simpa [T.plain] using a) (by simp only [T.dep] at l; omega), Option.map_some]
  | _, _, 0, .lst _ _ r, _, l => by simp [T.dep] at l
  | _, _, n + 1, .lst e _ r, a, l => by
    simp only [EV.toP, T.pd, e, Rds.toP n r (by simpa [T.plain] using a) (by simp only [T.dep] at l; omega), Option.map_some]
  | _, _, n, .dct _ _ _, a, _ => by simp [T.plain] at a
  | _, _, n, .pen _, a, _ => by simp [T.plain] at a
theorem Rds.toP : ∀ {d : List D} {t : List T} (n : Nat), Rds p B h d t → T.plains t = true → T.deps t ≤ n → EV.toPs h (n + 1) d = some (T.pds t)
  | _, _, n, .nil, _, _ => by simp [EV.toPs, T.pds]
  | _, _, n, .cons a b, e, l => by
    simp only [T.plains, Bool.and_eq_true] at e
    simp only [T.deps] at l
    simp only [EV.toPs, T.pds, Rd.toP n a e.1 (by omega), Rds.toP n b e.2 (by omega)]
end
mutual
theorem Rd.toPz : ∀ {d : D} {t : T} (n : Nat), Rd p B h d t → t.repb = true → t.dep ≤ n → EV.toPz h (n + 1) d = some t.pd
  | _, _, n, .non, _, _ => by simp [EV.toPz, T.pd]
  | _, _, n, .bl b, _, _ => by simp [EV.toPz, T.pd]
  | _, _, n, .int b, _, _ => by simp [EV.toPz, T.pd]
  | _, _, n, .str b, _, _ => by simp [EV.toPz, T.pd]
  | _, _, 0, .tup r, _, l => by simp [T.dep] at l
  | _, _, n + 1, .tup r, a, l => by
    simp only [EV.toPz, T.pd, Rds.toPz n r (by simpa [T.repb] using a) (by simp only [T.dep] at l; omega), Option.map_some]
  | _, _, 0, .lst _ _ r, _, l => by simp [T.dep] at l
  | _, _, n + 1, .lst e _ r, a, l => by
    simp only [EV.toPz, T.pd, e, Rds.toPz n r (by simpa [T.repb] using a) (by simp only [T.dep] at l; omega), Option.map_some]
  | _, _, n, .dct e _ .nil, _, _ => by simp only [EV.toPz, T.pd, e]
  | _, _, n, .dct _ _ (.cons _ _), a, _ => by simp [T.repb] at a
  | _, _, n, .pen _, a, _ => by simp [T.repb] at a
theorem Rds.toPz : ∀ {d : List D} {t : List T} (n : Nat), Rds p B h d t → T.repbs t = true → T.deps t ≤ n → EV.toPzs h (n + 1) d = some (T.pds t)
  | _, _, n, .nil, _, _ => by simp [EV.toPzs, T.pds]
  | _, _, n, .cons a b, e, l => by
    simp only [T.repbs, Bool.and_eq_true] at e
    simp only [T.deps] at l
    simp only [EV.toPzs, T.pds, Rd.toPz n a e.1 (by omega), Rds.toPz n b e.2 (by omega)]
end
theorem RdX.toP {d : D} {t : T} {n : Nat} (r : RdX p B h d t) (a : t.plain = true) (l : t.dep ≤ n) : EV.toP h (n + 1) d = some t.pd := by
  rcases r with r | ⟨m, rfl, ne, o⟩
  · exact r.toP n a l
  · cases o with
    | lst e r =>
      cases n with
      | zero => simp [T.dep] at l
      | succ n => simp only [EV.toP, T.pd, e, Rds.toP n r (by simpa [T.plain] using a) (by simp only [T.dep] at l; omega), Option.map_some]
    | dct e r => simp [T.plain] at a
theorem RdX.toPz {d : D} {t : T} {n : Nat} (r : RdX p B h d t) (a : t.repb = true) (l : t.dep ≤ n) : EV.toPz h (n + 1) d = some t.pd := by
  rcases r with r | ⟨m, rfl, ne, o⟩
  · exact r.toPz n a l
  · cases o with
    | lst e r =>
      cases n with
      | zero => simp [T.dep] at l
      | succ n => simp only [EV.toPz, T.pd, e, Rds.toPz n r (by simpa [T.repb] using a) (by simp only [T.dep] at l; omega), Option.map_some]
    | dct e r =>
      cases r with
      | nil => simp only [EV.toPz, T.pd, e]
      | cons _ _ => simp [T.repb] at a
end
mutual
theorem T.pd_lay : ∀ t : T, t.plain = true → PyData.canLay0 t.pd = true
  | .non, _ => rfl
  | .bl _, _ => rfl
  | .int _, _ => rfl
  | .str x, e => by simpa [T.plain, T.pd] using e
  | .tup xs, e => by simpa only [T.pd, PyData.canLay0] using T.pds_lay xs (by simpa [T.plain] using e)
  | .lst xs, e => by simpa only [T.pd, PyData.canLay0] using T.pds_lay xs (by simpa [T.plain] using e)
  | .dct _, e => by simp [T.plain] at e
  | .pen, e => by simp [T.plain] at e
theorem T.pds_lay : ∀ t : List T, T.plains t = true → PyData.canLayAll0 (T.pds t) = true
  | [], _ => rfl
  | x :: xs, e => by
    simp only [T.plains, Bool.and_eq_true] at e
    simp only [T.pds, PyData.canLayAll0, Bool.and_eq_true]
    exact ⟨T.pd_lay x e.1, T.pds_lay xs e.2⟩
end
mutual
theorem T.pd_dep : ∀ t : T, t.pd.depth ≤ t.dep + 1
  | .non => by simp [T.pd, PyData.depth]
  | .bl _ => by simp [T.pd, PyData.depth]
  | .int _ => by simp [T.pd, PyData.depth]
  | .str x => by simp [T.pd, PyData.depth]
  | .tup xs => by have := T.pds_dep xs; simp only [T.pd, PyData.depth, T.dep]; omega
  | .lst xs => by have := T.pds_dep xs; simp only [T.pd, PyData.depth, T.dep]; omega
  | .dct _ => by simp [T.pd, PyData.depth, PyData.depthKv]
  | .pen => by simp [T.pd, PyData.depth]
theorem T.pds_dep : ∀ t : List T, PyData.depthAll (T.pds t) ≤ T.deps t + 1
  | [] => by simp [T.pds, PyData.depthAll]
  | x :: xs => by
    have := T.pd_dep x
    have := T.pds_dep xs
    simp only [T.pds, PyData.depthAll, T.deps]; omega
end
def T.okq (t : T) : Prop := t.plain = true ∧ t.dep ≤ 39
theorem T.okq.shaped {t : T} (k : t.okq) : SeqAt.shaped t.pd = true := by
  have := T.pd_dep t
  simp only [SeqAt.shaped, T.pd_lay t k.1, Bool.true_and, decide_eq_true_eq]
  have := k.2; omega
section
variable {S : PenSys} {O : List Nat}
def vEq : V2 := fun x y Q => match x, y with
  | .str a, .str b => Q (.bl (decide (a = b)))
  | x, y => x.okq ∧ y.okq ∧ Q (.bl (PyData.eqv x.pd y.pd))
def vNe : V2 := fun x y Q => match x, y with
  | .str a, .str b => Q (.bl (!decide (a = b)))
  | x, y => x.okq ∧ y.okq ∧ Q (.bl (!PyData.eqv x.pd y.pd))
theorem dataOp_ok {p : Nat} {B : Nat → Prop} {h : AH} {x y : D} {a b : T} {g : PyData → PyData → Bool} (rx : RdX p B h x a) (ry : RdX p B h y b) (ka : a.okq) (kb : b.okq) : dataOp g x y h = .ok (.bl (g a.pd b.pd)) h := by
  have e1 := rx.toP (n := 39) ka.1 ka.2
  have e2 := ry.toP (n := 39) kb.1 kb.2
  unfold dataOp
  show (match EV.toP h (39 + 1) x, EV.toP h (39 + 1) y with | some d, some e => if SeqAt.shaped d = true ∧ SeqAt.shaped e = true then R.ok (D.bl (g d e)) h else .bad | _, _ => .bad) = _
  rw [e1, e2]
  exact if_pos ⟨ka.shaped, kb.shaped⟩
theorem strOp_or {f : Str → Str → Bool} {g : PyData → PyData → Bool} {x y : D} {h : AH} {b : Bool} (e : dataOp g x y h = .ok (.bl b) h) (k : ∀ a b, x = .str a → y = .str b → False) : orOp (strOp f) (dataOp g) x y h = .ok (.bl b) h := by
  unfold orOp
  have : strOp f x y h = .bad := by
    unfold strOp
    split
    · exact (k _ _ rfl rfl).elim
    · rfl
  rw [this]; exact e
theorem o2_eq : O2 S oEq vEq := fun p q B h c x y a b Q G rx ry w => by
  unfold vEq at w
  split at w
  · have := rx.str; subst this
    have := ry.str; subst this
    exact ⟨_, h, _, rfl, Ge.refl, G, .bl _, w⟩
  · rename_i n
    obtain ⟨ka, kb, w⟩ := w
    exact ⟨_, h, _, strOp_or (dataOp_ok rx ry ka kb) (fun a' b' e1 e2 => by
      subst e1; subst e2
      rcases rx with rx | ⟨n, e, _, _⟩
      · rcases ry with ry | ⟨n, e, _, _⟩
        · cases rx; cases ry; exact n _ _ rfl rfl
        · cases e
      · cases e), Ge.refl, G, .bl _, w⟩
theorem o2_ne : O2 S oNe vNe := fun p q B h c x y a b Q G rx ry w => by
  unfold vNe at w
  split at w
  · have := rx.str; subst this
    have := ry.str; subst this
    exact ⟨_, h, _, rfl, Ge.refl, G, .bl _, w⟩
  · rename_i n
    obtain ⟨ka, kb, w⟩ := w
    exact ⟨_, h, _, strOp_or (dataOp_ok rx ry ka kb) (fun a' b' e1 e2 => by
      subst e1; subst e2
      rcases rx with rx | ⟨n, e, _, _⟩
      · rcases ry with ry | ⟨n, e, _, _⟩
        · cases rx; cases ry; exact n _ _ rfl rfl
        · cases e
      · cases e), Ge.refl, G, .bl _, w⟩
noncomputable def tget (kvs : List (T × T)) (k : T) : Option T := by
  classical exact (kvs.find? fun kv => decide (kv.1 = k)).map (·.2)
theorem Rdk.get {p : Nat} {B : Nat → Prop} {h : AH} {k : Key} : ∀ {xs : List (Key × D)} {ts : List (T × T)} {t : T}, Rdk p B h xs ts → tget ts (kT k) = some t → ∃ d, dget xs k = some d ∧ Rd p B h d t
  | _, _, _, .nil, e => by simp [tget] at e
  | _, _, t, .cons (k := k') (x := x) (xs := xs) (ts := ts) a b, e => by
    by_cases q : k' = k
    · subst q
      simp [tget, List.find?_cons] at e
      subst e
      exact ⟨x, by simp [dget, List.find?_cons], a⟩
    · have q' : ¬ kT k' = kT k := fun z => q (kT_inj z)
      have e' : tget ts (kT k) = some t := by simpa [tget, List.find?_cons, q'] using e
      obtain ⟨d, h1, h2⟩ := Rdk.get b e'
      exact ⟨d, by simpa [dget, List.find?_cons, q] using h1, h2⟩
def tAt (xs : List T) (i : Int) (Q : T → Prop) : Prop := match atI xs i with | some t => Q t | none => False
def vIx : V2 := fun x y Q => match x, y with
  | .tup xs, .int i => tAt xs i Q
  | .lst xs, .int i => tAt xs i Q
  | .dct kvs, .int i => (match tget kvs (.int i) with | some t => Q t | none => False)
  | .dct kvs, .str i => (match tget kvs (.str i) with | some t => Q t | none => False)
  | _, _ => False
theorem o2_ix : O2 S oIx vIx := fun p q B h c x y a b Q G rx ry w => by
  unfold vIx at w
  split at w
  · rename_i ts i
    obtain ⟨xs, rfl, r⟩ := rx.tup
    have := ry.int; subst this
    unfold tAt at w
    split at w
    · rename_i t e
      obtain ⟨d, h1, h2⟩ := atI_rd r e
      exact ⟨d, h, t, by simp only [oIx, seqAt, h1], Ge.refl, G, h2, w⟩
    · exact w.elim
  · rename_i ts i
    obtain ⟨n, xs, r, rfl, e1⟩ := rx.lst
    have := ry.int; subst this
    unfold tAt at w
    split at w
    · rename_i t e
      obtain ⟨d, h1, h2⟩ := atI_rd r e
      exact ⟨d, h, t, by simp only [oIx, e1, seqAt, h1], Ge.refl, G, h2, w⟩
    · exact w.elim
  · rename_i kvs i
    obtain ⟨n, xs, r, rfl, e1⟩ := rx.dct
    have := ry.int; subst this
    split at w
    · rename_i t e
      obtain ⟨d, h1, h2⟩ := r.get (k := .inl i) e
      exact ⟨d, h, t, by simp only [oIx, e1, dKey, h1], Ge.refl, G, h2, w⟩
    · exact w.elim
  · rename_i kvs i
    obtain ⟨n, xs, r, rfl, e1⟩ := rx.dct
    have := ry.str; subst this
    split at w
    · rename_i t e
      obtain ⟨d, h1, h2⟩ := r.get (k := .inr i) e
      exact ⟨d, h, t, by simp only [oIx, e1, dKey, h1], Ge.refl, G, h2, w⟩
    · exact w.elim
  · exact w.elim
def T.isN : T → Bool
  | .non => true
  | _ => false
def vIsN : V2 := fun x _ Q => Q (.bl x.isN)
def vNotN : V2 := fun x _ Q => Q (.bl (!x.isN))
theorem RdX.isN {p : Nat} {B : Nat → Prop} {h : AH} {d : D} {t : T} (r : RdX p B h d t) (k : AH) : oIsN d .non k = .ok (.bl t.isN) k ∧ oNotN d .non k = .ok (.bl (!t.isN)) k := by
  rcases r with r | ⟨n, rfl, _, o⟩
  · cases r <;> exact ⟨rfl, rfl⟩
  · cases o <;> exact ⟨rfl, rfl⟩
def vNotB : V2 := fun x y Q => match x, y with | .bl a, .bl b => Q (.bl (!decide (a = b))) | _, _ => False
def T.flat : T → Bool
  | .non => true
  | .bl _ => true
  | .int _ => true
  | .str _ => true
  | _ => false
def T.eqF : T → T → Bool
  | .non, .non => true
  | .bl a, .bl b => a == b
  | .bl a, .int b => (if a then 1 else 0) == b
  | .int a, .bl b => a == (if b then 1 else 0)
  | .int a, .int b => a == b
  | .str a, .str b => a == b
  | _, _ => false
theorem Rd.flat {p : Nat} {B : Nat → Prop} {h : AH} {d : D} {t : T} (r : Rd p B h d t) : flatD d = t.flat := by cases r <;> rfl
theorem Rd.eqF {p : Nat} {B : Nat → Prop} {h : AH} {d e : D} {t u : T} (r : Rd p B h d t) (s : Rd p B h e u) : EV.eqF d e = t.eqF u := by cases r <;> cases s <;> rfl
theorem RdX.rd {p : Nat} {B : Nat → Prop} {h : AH} {d : D} {t : T} (r : RdX p B h d t) (f : t.flat = true) : Rd p B h d t := by
  rcases r with r | ⟨n, rfl, _, o⟩
  · exact r
  · cases o <;> simp [T.flat] at f
abbrev V1 := T → (T → Prop) → Prop
def O1 (S : PenSys) (b : BF) (v : V1) : Prop := ∀ (p q : Nat) (B : Nat → Prop) (h : AH) (c : Nat) (x : D) (a : T) (Q : T → Prop), Good S p q B h c → RdX p B h x a → v a Q →
  ∃ z h' t, b [x] h = .ok z h' ∧ Ge p h h' ∧ Good S p q B h' c ∧ Rd p B h' z t ∧ Q t
def wB1 (v : V1) (f : WE) : WE := fun τ c Q => f τ c fun x c1 => v x fun z => Q z c1
theorem j_b1 {b : BF} {v : V1} {f : EF} {φ : WE} (s : O1 S b v) (a : JX S O f φ) : JE S O (eApp b (aCons f aNil)) (wB1 v φ) := fun p q L B h c σ τ Q G pl r w => by
  obtain ⟨x, h1, tx, c1, e1, g1, G1, r1, k1⟩ := a p q L B h c σ τ _ G pl r w
  obtain ⟨z, h3, t, e3, g3, G3, r3, k3⟩ := s p q B h1 c1 x tx _ G1 r1 k1
  exact ⟨z, h3, t, c1, by rw [eApp_d, aCons_d, e1, bind_ok, aNil_d, bind_ok, bind_ok, e3], g1.trans g3, G3, r3, k3⟩
def O1N (S : PenSys) (b : BF) (v : V1) : Prop := ∀ (p q : Nat) (B : Nat → Prop) (h : AH) (c : Nat) (x : D) (a : T) (Q : T → Prop), Good S p q B h c → RdX p B h x a → v a Q →
  ∃ n h' t, b [x] h = .ok (.ref n) h' ∧ h.length ≤ n ∧ Ge p h h' ∧ Good S p q B h' c ∧ Own p (fun m => B m ∨ m = n) h' n t ∧ Q t
theorem jn_b1 {b : BF} {v : V1} {f : EF} {φ : WE} (s : O1N S b v) (a : JX S O f φ) : JN S O (eApp b (aCons f aNil)) (wB1 v φ) := fun p q L B h c σ τ Q G pl r w => by
  obtain ⟨x, h1, tx, c1, e1, g1, G1, r1, k1⟩ := a p q L B h c σ τ _ G pl r w
  obtain ⟨n, h3, t, e3, ln, g3, G3, r3, k3⟩ := s p q B h1 c1 x tx _ G1 r1 k1
  exact ⟨n, h3, t, c1, by rw [eApp_d, aCons_d, e1, bind_ok, aNil_d, bind_ok, bind_ok, e3], by have := g1.len; omega, g1.trans g3, G3, r3, k3⟩
theorem Rdk.length {p : Nat} {B : Nat → Prop} {h : AH} : ∀ {xs : List (Key × D)} {ts : List (T × T)}, Rdk p B h xs ts → xs.length = ts.length
  | _, _, .nil => rfl
  | _, _, .cons _ b => by simp [Rdk.length b]
def vLen : V1 := fun x Q => match x with
  | .lst xs => Q (.int xs.length)
  | .tup xs => Q (.int xs.length)
  | .dct kvs => Q (.int kvs.length)
  | _ => False
theorem o1_len : O1 S bLen vLen := fun p q B h c x a Q G rx w => by
  unfold vLen at w
  split at w
  · obtain ⟨xs, r, e⟩ := RdX.seq (.inl rx)
    exact ⟨.int xs.length, h, .int xs.length, by simp only [bLen, e], Ge.refl, G, .int _, by rw [r.length]; exact w⟩
  · obtain ⟨xs, r, e⟩ := RdX.seq (.inr rx)
    exact ⟨.int xs.length, h, .int xs.length, by simp only [bLen, e], Ge.refl, G, .int _, by rw [r.length]; exact w⟩
  · obtain ⟨n, xs, r, rfl, e⟩ := rx.dct
    exact ⟨.int xs.length, h, .int xs.length, by simp only [bLen, seqOf, e], Ge.refl, G, .int _, by rw [r.length]; exact w⟩
  · exact w.elim
def vTuple : V1 := fun x Q => match x with
  | .lst xs => Q (.tup xs)
  | .tup xs => Q (.tup xs)
  | _ => False
theorem o1_tuple : O1 S bTuple vTuple := fun p q B h c x a Q G rx w => by
  unfold vTuple at w
  split at w
  · obtain ⟨n, xs, r, rfl, e⟩ := rx.lst
    exact ⟨.tup xs, h, _, by simp only [bTuple, seqOf, e], Ge.refl, G, .tup r, w⟩
  · obtain ⟨xs, rfl, r⟩ := rx.tup
    exact ⟨.tup xs, h, _, rfl, Ge.refl, G, .tup r, w⟩
  · exact w.elim
def vList : V1 := fun x Q => match x with
  | .lst xs => Q (.lst xs)
  | .tup xs => Q (.lst xs)
  | _ => False
theorem o1n_list : O1N S bList vList := fun p q B h c x a Q G rx w => by
  have key : ∀ ts, (RdX p B h x (.lst ts) ∨ RdX p B h x (.tup ts)) → Q (.lst ts) → ∃ n h' t, bList [x] h = .ok (.ref n) h' ∧ h.length ≤ n ∧ Ge p h h' ∧ Good S p q B h' c ∧ Own p (fun m => B m ∨ m = n) h' n t ∧ Q t := by
    intro ts rx w
    obtain ⟨xs, r, e⟩ := RdX.seq rx
    obtain ⟨g, G', o⟩ := G.newL r
    exact ⟨_, _, _, by simp only [bList, e, newL], Nat.le_refl _, g, G', o, w⟩
  unfold vList at w
  split at w
  · exact key _ (.inl rx) w
  · exact key _ (.inr rx) w
  · exact w.elim
def tbls : List T → Option (List Bool)
  | [] => some []
  | .bl b :: r => (tbls r).map (b :: ·)
  | _ => none
theorem Rds.bls {p : Nat} {B : Nat → Prop} {h : AH} : ∀ {xs : List D} {ts : List T} {bs : List Bool}, Rds p B h xs ts → tbls ts = some bs → blsOf xs = some bs
  | _, _, _, .nil, e => by simpa [tbls, blsOf] using e
  | _, t :: ts, _, .cons a b, e => by
    cases t <;> simp [tbls] at e
    cases a
    obtain ⟨bs', e1, e2⟩ := e
    simp [blsOf, Rds.bls b e1, e2]
def vAll : V1 := fun x Q => match x with
  | .lst xs => (match tbls xs with | some bs => Q (.bl (bs.all id)) | none => False)
  | _ => False
theorem o1_all : O1 S bAll vAll := fun p q B h c x a Q G rx w => by
  unfold vAll at w
  split at w
  · obtain ⟨n, xs, r, rfl, e⟩ := rx.lst
    split at w
    · rename_i bs eb
      exact ⟨.bl (bs.all id), h, _, by simp only [bAll, e, r.bls eb], Ge.refl, G, .bl _, w⟩
    · exact w.elim
  · exact w.elim
def vInt : V1 := fun x Q => match x with
  | .int i => Q (.int i)
  | .bl b => Q (.int (if b then 1 else 0))
  | _ => False
def vAbs : V1 := fun x Q => match x with
  | .int i => Q (.int (if i < 0 then -i else i))
  | _ => False
theorem o1_abs : O1 S bAbs vAbs := fun p q B h c x a Q G rx w => by
  unfold vAbs at w
  split at w
  · have := rx.int; subst this
    exact ⟨_, h, _, rfl, Ge.refl, G, .int _, w⟩
  · exact w.elim
structure T.okr (t : T) : Prop where
  rb : t.repb = true
  dp : t.dep ≤ 39
  sh : t.pd.showable = true
  ln : t.pd.shown.length ≤ sizeLine
def vRepr : V1 := fun x Q => x.okr ∧ Q (.str x.pd.shown)
theorem o1_repr : O1 S bReprZ vRepr := fun p q B h c x a Q G rx w => by
  obtain ⟨k, w⟩ := w
  have e := rx.toPz (n := 39) k.rb k.dp
  refine ⟨_, h, _, ?_, Ge.refl, G, .str _, w⟩
  show (match EV.toPz h (39 + 1) x with | some d => if d.showable = true ∧ d.depth ≤ 60 ∧ d.shown.length ≤ sizeLine then R.ok (D.str d.shown) h else .bad | none => .bad) = _
  rw [e]
  have := T.pd_dep a
  exact if_pos ⟨k.sh, by have := k.dp; omega, k.ln⟩
def T.ty : T → Option Ty
  | .non => some .non | .bl _ => some .bl | .int _ => some .int | .str _ => some .str | .tup _ => some .tup | .lst _ => some .lst | .dct _ => some .dct | .pen => none
def wIsi (c : Ty) (f : WE) : WE := fun τ k Q => f τ k fun x k1 => match x.ty with | some t => Q (.bl (isSub t c)) k1 | none => False
theorem RdX.ty {p : Nat} {B : Nat → Prop} {h : AH} {d : D} {t : T} {y : Ty} (r : RdX p B h d t) (e : t.ty = some y) : tyD d h = some y := by
  rcases r with r | ⟨n, rfl, _, o⟩
  · cases r with
    | lst e1 _ _ => simp only [tyD, e1]; exact e
    | dct e1 _ _ => simp only [tyD, e1]; exact e
    | pen => simp [T.ty] at e
    | _ => simpa [tyD, T.ty] using e
  · cases o with
    | lst e1 _ => simp only [tyD, e1]; exact e
    | dct e1 _ => simp only [tyD, e1]; exact e
theorem j_isi (k : Ty) {f : EF} {φ : WE} (a : JX S O f φ) : JE S O (eIsi k f) (wIsi k φ) := fun p q L B h c σ τ Q G pl r w => by
  obtain ⟨x, h1, tx, c1, e1, g1, G1, r1, k1⟩ := a p q L B h c σ τ _ G pl r w
  split at k1
  · rename_i y ey
    exact ⟨_, h1, _, c1, by rw [eIsi_d, e1, bind_ok, r1.ty ey], g1, G1, .bl _, k1⟩
  · exact k1.elim
end
end EV
set_option Elab.async false
set_option linter.all false
set_option autoImplicit false
set_option maxRecDepth 100000
namespace EV
open PySem PySem.Spec L2
section
variable {S : PenSys} {O : List Nat}
def wTup (f : WA) : WE := fun τ c Q => f τ c fun ts c1 => ts.length ≤ sizeLine ∧ Q (.tup ts) c1
def wLst (f : WA) : WE := fun τ c Q => f τ c fun ts c1 => ts.length ≤ sizeLine ∧ Q (.lst ts) c1
theorem j_tup {f : AF} {φ : WA} (a : JA S O f φ) : JE S O (eTup f) (wTup φ) := fun p q L B h c σ τ Q G pl r w => by
  obtain ⟨x, h1, tx, c1, e1, g1, G1, r1, k1⟩ := a p q L B h c σ τ _ G pl r w
  exact ⟨.tup x, h1, _, c1, by rw [eTup_d, e1, bind_ok, if_pos (by rw [r1.length]; exact k1.1)], g1, G1, .tup r1, k1.2⟩
theorem jn_lst {f : AF} {φ : WA} (a : JA S O f φ) : JN S O (eLst f) (wLst φ) := fun p q L B h c σ τ Q G pl r w => by
  obtain ⟨x, h1, tx, c1, e1, g1, G1, r1, k1⟩ := a p q L B h c σ τ _ G pl r w
  obtain ⟨g2, G2, o⟩ := G1.newL r1
  exact ⟨_, _, _, c1, by rw [eLst_d, e1, bind_ok, if_pos (by rw [r1.length]; exact k1.1)]; rfl, g1.len, g1.trans g2, G2, o, k1.2⟩
def wDict0 : WE := fun _ c Q => Q (.dct []) c
theorem jn_dict0 : JN S O eDict0 wDict0 := fun p q L B h c σ τ Q G pl r w =>
  ⟨h.length, _, _, c, rfl, Nat.le_refl _, Ge.app, G.app rfl, .dct (xs := []) (by rw [List.getElem?_append_right (Nat.le_refl _)]; simp) .nil, w⟩
def wIf (t : WT) (f g : WE) : WE := fun τ c Q => t τ c fun b c1 => if b = true then f τ c1 Q else g τ c1 Q
def wAnd2 (f g : WE) : WE := fun τ c Q => f τ c fun x c1 => match x with | .bl true => g τ c1 Q | .bl false => Q (.bl false) c1 | _ => False
def wOr2 (f g : WE) : WE := fun τ c Q => f τ c fun x c1 => match x with | .bl true => Q (.bl true) c1 | .bl false => g τ c1 Q | _ => False
def wNot1 (f : WE) : WE := fun τ c Q => f τ c fun x c1 => match x with | .bl b => Q (.bl (!b)) c1 | _ => False
def wNeg (f : WE) : WE := fun τ c Q => f τ c fun x c1 => match x with | .int i => Q (.int (-i)) c1 | _ => False
theorem j_and {f g : EF} {φ ψ : WE} (a : JE S O f φ) (b : JE S O g ψ) : JE S O (eAnd2 f g) (wAnd2 φ ψ) := fun p q L B h c σ τ Q G pl r w => by
  obtain ⟨x, h1, tx, c1, e1, g1, G1, r1, k1⟩ := a p q L B h c σ τ _ G pl r w
  split at k1
  · cases r1
    obtain ⟨v, h2, t2, c2, e2, g2, G2, r2, k2⟩ := b p q L B h1 c1 σ τ Q G1 pl (r.ge g1 G.bp pl) k1
    exact ⟨v, h2, t2, c2, by rw [eAnd2_d, e1, bind_ok]; exact e2, g1.trans g2, G2, r2, k2⟩
  · cases r1
    exact ⟨.bl false, h1, _, c1, by rw [eAnd2_d, e1, bind_ok], g1, G1, .bl _, k1⟩
  · exact k1.elim
theorem j_or {f g : EF} {φ ψ : WE} (a : JE S O f φ) (b : JE S O g ψ) : JE S O (eOr2 f g) (wOr2 φ ψ) := fun p q L B h c σ τ Q G pl r w => by
  obtain ⟨x, h1, tx, c1, e1, g1, G1, r1, k1⟩ := a p q L B h c σ τ _ G pl r w
  split at k1
  · cases r1
    exact ⟨.bl true, h1, _, c1, by rw [eOr2_d, e1, bind_ok], g1, G1, .bl _, k1⟩
  · cases r1
    obtain ⟨v, h2, t2, c2, e2, g2, G2, r2, k2⟩ := b p q L B h1 c1 σ τ Q G1 pl (r.ge g1 G.bp pl) k1
    exact ⟨v, h2, t2, c2, by rw [eOr2_d, e1, bind_ok]; exact e2, g1.trans g2, G2, r2, k2⟩
  · exact k1.elim
theorem j_not {f : EF} {φ : WE} (a : JE S O f φ) : JE S O (eNot1 f) (wNot1 φ) := fun p q L B h c σ τ Q G pl r w => by
  obtain ⟨x, h1, tx, c1, e1, g1, G1, r1, k1⟩ := a p q L B h c σ τ _ G pl r w
  split at k1
  · cases r1
    exact ⟨_, h1, _, c1, by rw [eNot1_d, e1, bind_ok], g1, G1, .bl _, k1⟩
  · exact k1.elim
theorem j_neg {f : EF} {φ : WE} (a : JE S O f φ) : JE S O (eNeg f) (wNeg φ) := fun p q L B h c σ τ Q G pl r w => by
  obtain ⟨x, h1, tx, c1, e1, g1, G1, r1, k1⟩ := a p q L B h c σ τ _ G pl r w
  split at k1
  · cases r1
    exact ⟨_, h1, _, c1, by rw [eNeg_d, e1, bind_ok], g1, G1, .int _, k1⟩
  · exact k1.elim
def wChain (u v : V2) (f g k : WE) : WE := fun τ c Q => f τ c fun x c1 => g τ c1 fun y c2 => u x y fun z => match z with
  | .bl true => k τ c2 fun w c4 => v y w fun z => Q z c4
  | .bl false => Q (.bl false) c2
  | _ => False
theorem j_chain {o o' : Op2} {u v : V2} {f g k : EF} {φ ψ χ : WE} (s : O2 S o u) (s' : O2 S o' v) (a : JX S O f φ) (b : JX S O g ψ) (d : JX S O k χ) : JE S O (eChain o o' f g k) (wChain u v φ ψ χ) := fun p q L B h c σ τ Q G pl r w => by
  obtain ⟨x, h1, tx, c1, e1, g1, G1, r1, k1⟩ := a p q L B h c σ τ _ G pl r w
  have R1 := r.ge g1 G.bp pl
  obtain ⟨y, h2, ty, c2, e2, g2, G2, r2, k2⟩ := b p q L B h1 c1 σ τ _ G1 pl R1 k1
  obtain ⟨z, h3, t, e3, g3, G3, r3, k3⟩ := s p q B h2 c2 x y tx ty _ G2 (r1.ge g2 G.bp) r2 k2
  split at k3
  · cases r3
    obtain ⟨w', h4, tw, c4, e4, g4, G4, r4, k4⟩ := d p q L B h3 c2 σ τ _ G3 pl ((R1.ge g2 G.bp pl).ge g3 G.bp pl) k3
    obtain ⟨z', h5, t5, e5, g5, G5, r5, k5⟩ := s' p q B h4 c4 y w' ty tw _ G4 (r2.ge (g3.trans g4) G.bp) r4 k4
    exact ⟨z', h5, t5, c4, by rw [eChain_d, e1, bind_ok, e2, bind_ok, e3, bind_ok]; show (k σ h3).bind _ = _; rw [e4, bind_ok, e5], g1.trans (g2.trans (g3.trans (g4.trans g5))), G5, r5, k5⟩
  · cases r3
    exact ⟨.bl false, h3, _, c2, by rw [eChain_d, e1, bind_ok, e2, bind_ok, e3, bind_ok], g1.trans (g2.trans g3), G3, .bl _, k3⟩
  · exact k3.elim
def wB (f : WE) : WT := fun τ c Q => f τ c fun x c1 => match x with | .bl b => Q b c1 | _ => False
theorem jt_b {f : EF} {φ : WE} (a : JE S O f φ) : JT S O (EV.tB f) (wB φ) := fun p q L B h c σ τ Q G pl r w => by
  obtain ⟨x, h1, tx, c1, e1, g1, G1, r1, k1⟩ := a p q L B h c σ τ _ G pl r w
  split at k1
  · cases r1
    exact ⟨_, h1, c1, by rw [tB_d, e1, bind_ok], g1, G1, k1⟩
  · exact k1.elim
def wtNot (f : WT) : WT := fun τ c Q => f τ c fun b c1 => Q (!b) c1
def wtAnd (f g : WT) : WT := fun τ c Q => f τ c fun b c1 => if b = true then g τ c1 Q else Q false c1
def wtOr (f g : WT) : WT := fun τ c Q => f τ c fun b c1 => if b = true then Q true c1 else g τ c1 Q
def wtTrue : WT := fun _ c Q => Q true c
theorem jt_true : JT S O tTrue wtTrue := fun p q L B h c σ τ Q G pl r w => ⟨true, h, c, rfl, Ge.refl, G, w⟩
theorem jt_not {f : TF} {φ : WT} (a : JT S O f φ) : JT S O (tNot1 f) (wtNot φ) := fun p q L B h c σ τ Q G pl r w => by
  obtain ⟨x, h1, c1, e1, g1, G1, k1⟩ := a p q L B h c σ τ _ G pl r w
  exact ⟨_, h1, c1, by rw [tNot1_d, e1, bind_ok], g1, G1, k1⟩
theorem jt_or {f g : TF} {φ ψ : WT} (a : JT S O f φ) (b : JT S O g ψ) : JT S O (tOr2 f g) (wtOr φ ψ) := fun p q L B h c σ τ Q G pl r w => by
  obtain ⟨x, h1, c1, e1, g1, G1, k1⟩ := a p q L B h c σ τ _ G pl r w
  cases x with
  | true => exact ⟨true, h1, c1, by rw [tOr2_d, e1, bind_ok, if_pos rfl], g1, G1, by simpa using k1⟩
  | false =>
    obtain ⟨y, h2, c2, e2, g2, G2, k2⟩ := b p q L B h1 c1 σ τ Q G1 pl (r.ge g1 G.bp pl) (by simpa using k1)
    exact ⟨y, h2, c2, by rw [tOr2_d, e1, bind_ok, if_neg Bool.false_ne_true, e2], g1.trans g2, G2, k2⟩
def woNone : WO := fun _ c Q => Q none c
def woSome (f : WE) : WO := fun τ c Q => f τ c fun x c1 => match x with | .int i => Q (some i) c1 | _ => False
theorem jo_none : JO S O oNone woNone := fun p q L B h c σ τ Q G pl r w => ⟨none, h, c, rfl, Ge.refl, G, w⟩
theorem jo_some {f : EF} {φ : WE} (a : JE S O f φ) : JO S O (oSome f) (woSome φ) := fun p q L B h c σ τ Q G pl r w => by
  obtain ⟨x, h1, tx, c1, e1, g1, G1, r1, k1⟩ := a p q L B h c σ τ _ G pl r w
  split at k1
  · cases r1
    exact ⟨_, h1, c1, by rw [oSome_d, e1, bind_ok], g1, G1, k1⟩
  · exact k1.elim
def cutT (xs : List T) (lo hi : Option Int) : List T := (xs.drop (HT.sIx xs.length 0 lo)).take (HT.sIx xs.length xs.length hi - HT.sIx xs.length 0 lo)
theorem cutT_rd {p : Nat} {B : Nat → Prop} {h : AH} {xs : List D} {ts : List T} (r : Rds p B h xs ts) (lo hi : Option Int) : Rds p B h (cutD xs lo hi) (cutT ts lo hi) := by
  unfold cutD cutT
  rw [r.length]
  exact (r.drop _).take _
def wSl (f : WE) (l u : WO) : WE := fun τ c Q => f τ c fun x c1 => l τ c1 fun lo c2 => u τ c2 fun hi c3 => match x with
  | .tup xs => Q (.tup (cutT xs lo hi)) c3
  | .lst xs => Q (.lst (cutT xs lo hi)) c3
  | _ => False
theorem eSlA_d {f : EF} {l u : OF} {σ : Fr} {h : AH} : eSlA f l u σ h = (f σ h).bind fun x h1 => (l σ h1).bind fun lo h2 => (u σ h2).bind fun hi h3 => slA x lo hi h3 := id rfl
theorem j_sl {f : EF} {l u : OF} {φ : WE} {lo hi : WO} (a : JX S O f φ) (b : JO S O l lo) (d : JO S O u hi) : JE S O (eSlA f l u) (wSl φ lo hi) := fun p q L B h c σ τ Q G pl r w => by
  obtain ⟨x, h1, tx, c1, e1, g1, G1, r1, k1⟩ := a p q L B h c σ τ _ G pl r w
  have R1 := r.ge g1 G.bp pl
  obtain ⟨lo, h2, c2, e2, g2, G2, k2⟩ := b p q L B h1 c1 σ τ _ G1 pl R1 k1
  obtain ⟨hi, h3, c3, e3, g3, G3, k3⟩ := d p q L B h2 c2 σ τ _ G2 pl (R1.ge g2 G.bp pl) k2
  have r1' := r1.ge (g2.trans g3) G.bp
  have e : ∀ z h', slA x lo hi h3 = .ok z h' → eSlA f l u σ h = .ok z h' := fun z h' e => by rw [eSlA_d, e1, bind_ok, e2, bind_ok, e3, bind_ok, e]
  split at k3
  · obtain ⟨xs, rfl, r⟩ := r1'.tup
    exact ⟨_, h3, _, c3, e _ _ rfl, g1.trans (g2.trans g3), G3, .tup (cutT_rd r lo hi), k3⟩
  · obtain ⟨n, xs, r, rfl, en⟩ := r1'.lst
    obtain ⟨g4, G4, r4⟩ := G3.newL' (cutT_rd r lo hi)
    exact ⟨_, _, _, c3, e _ _ (by simp only [slA, en, newL]), g1.trans (g2.trans (g3.trans g4)), G4, r4, k3⟩
  · exact k3.elim
def wSlL (f : WE) (l u : WO) : WE := fun τ c Q => f τ c fun x c1 => l τ c1 fun lo c2 => u τ c2 fun hi c3 => match x with
  | .lst xs => Q (.lst (cutT xs lo hi)) c3
  | _ => False
def wApp (Φ : WF) (f : WA) : WE := fun τ c Q => f τ c fun ts c1 => Φ ts c1 Q
theorem j_app {F : BF} {Φ : WF} {f : AF} {φ : WA} (k : JF S F Φ) (a : JA S O f φ) : JE S O (eApp F f) (wApp Φ φ) := fun p q L B h c σ τ Q G pl r w => by
  obtain ⟨x, h1, tx, c1, e1, g1, G1, r1, k1⟩ := a p q L B h c σ τ _ G pl r w
  obtain ⟨v, h2, t, c2, e2, g2, G2, r2, k2⟩ := k p q B h1 c1 x tx Q G1 r1 k1
  exact ⟨v, h2, t, c2, by rw [eApp_d, e1, bind_ok, e2], g1.trans g2, G2, r2, k2⟩
theorem Rds.sel {p : Nat} {B : Nat → Prop} {h : AH} {xs : List D} {ts : List T} (r : Rds p B h xs ts) : ∀ is : List Nat, Rds p B h (EV.sel is xs) (EV.sel is ts)
  | [] => .nil
  | i :: is => by
    have ih := Rds.sel r is
    unfold EV.sel at ih ⊢
    cases e : ts[i]? with
    | none =>
      have : xs[i]? = none := List.getElem?_eq_none_iff.mpr (by have := List.getElem?_eq_none_iff.mp e; rw [r.length]; exact this)
      rw [List.filterMap_cons_none (by simpa using this), List.filterMap_cons_none (by simpa using e)]
      exact ih
    | some t =>
      obtain ⟨d, h1, h2⟩ := r.get e
      rw [List.filterMap_cons_some (b := d) (by simpa using h1), List.filterMap_cons_some (b := t) (by simpa using e)]
      exact .cons h2 ih
def wAppK (Φ : WF) (is : List Nat) (a b : Nat) (f g : WA) : WE := fun τ c Q => f τ c fun ts c1 => g τ c1 fun us c2 => (ts.length = a ∧ us.length = b) ∧ Φ (sel is (ts ++ us)) c2 Q
theorem j_appK {F : BF} {Φ : WF} {is : List Nat} {m n : Nat} {f g : AF} {φ ψ : WA} (k : JF S F Φ) (a : JA S O f φ) (b : JA S O g ψ) : JE S O (eAppK F is m n f g) (wAppK Φ is m n φ ψ) := fun p q L B h c σ τ Q G pl r w => by
  obtain ⟨x, h1, tx, c1, e1, g1, G1, r1, k1⟩ := a p q L B h c σ τ _ G pl r w
  obtain ⟨y, h2, ty, c2, e2, g2, G2, r2, k2⟩ := b p q L B h1 c1 σ τ _ G1 pl (r.ge g1 G.bp pl) k1
  obtain ⟨v, h3, t, c3, e3, g3, G3, r3, k3⟩ := k p q B h2 c2 _ _ Q G2 (((r1.ge g2 G.bp).app r2).sel is) k2.2
  exact ⟨v, h3, t, c3, by rw [eAppK_d, e1, bind_ok, e2, bind_ok, if_pos (by rw [r1.length, r2.length]; exact k2.1), e3], g1.trans (g2.trans g3), G3, r3, k3⟩
abbrev WI := TFr → Nat → (List T → Nat → Prop) → Prop
def JI (S : PenSys) (O : List Nat) (f : IF) (φ : WI) : Prop := ∀ (p q L : Nat) (B : Nat → Prop) (h : AH) (c : Nat) (σ : Fr) (τ : TFr) (Q : List T → Nat → Prop), Good S p q B h c → p < L → RF p B L O h σ τ → φ τ c Q →
  ∃ s h' ts c', f σ h = .ok s h' ∧ Ge p h h' ∧ Good S p q B h' c' ∧ Rds p B h' s.items ts ∧ (∀ k, (∀ n, n < h'.length → n ≠ p → k[n]? = h'[n]?) → s.chk k) ∧ Q ts c'
def JIS (S : PenSys) (O : List Nat) (f : IF) (φ : WI) : Prop := ∀ (p q L : Nat) (B : Nat → Prop) (h : AH) (c : Nat) (σ : Fr) (τ : TFr) (Q : List T → Nat → Prop), Good S p q B h c → p < L → RF p B L O h σ τ → φ τ c Q →
  ∃ s h' ts c', f σ h = .ok s h' ∧ Ge p h h' ∧ Good S p q B h' c' ∧ Rds p B h' s.items ts ∧ (∀ k, (∀ n, n < h'.length → ¬ B n → k[n]? = h'[n]?) → s.chk k) ∧ Q ts c'
def wSeq (f : WE) : WI := fun τ c Q => f τ c fun x c1 => match x with | .lst ts => Q ts c1 | .tup ts => Q ts c1 | _ => False
theorem ji_seq {f : EF} {φ : WE} (a : JX S O f φ) : JI S O (iSeq f) (wSeq φ) := fun p q L B h c σ τ Q G pl r w => by
  obtain ⟨x, h1, tx, c1, e1, g1, G1, r1, k1⟩ := a p q L B h c σ τ _ G pl r w
  split at k1
  · rename_i ts
    obtain ⟨n, xs, ne, r, rfl, en⟩ : ∃ n xs, n ≠ p ∧ Rds p B h1 xs ts ∧ x = .ref n ∧ h1[n]? = some (.lst xs) := by
      rcases r1 with r | ⟨n, e, ne, o⟩
      · cases r with
        | lst e b r => exact ⟨_, _, fun z => b (by rw [z]; exact G.bp), r, rfl, e⟩
      · cases o with | lst e' r => exact ⟨n, _, ne, r, e, e'⟩
    refine ⟨held n xs, h1, _, c1, by unfold iSeq; rw [e1, bind_ok]; simp only [srcD, en], g1, G1, r, fun k hk => ?_, k1⟩
    show k[n]? = _
    rw [hk n (List.getElem?_eq_some_iff.mp en).1 ne]; exact en
  · obtain ⟨xs, rfl, r⟩ := r1.tup
    exact ⟨still xs, h1, _, c1, by unfold iSeq; rw [e1, bind_ok]; rfl, g1, G1, r, fun k hk => trivial, k1⟩
  · exact k1.elim
theorem jis_seq {f : EF} {φ : WE} (a : JE S O f φ) : JIS S O (iSeq f) (wSeq φ) := fun p q L B h c σ τ Q G pl r w => by
  obtain ⟨x, h1, tx, c1, e1, g1, G1, r1, k1⟩ := a p q L B h c σ τ _ G pl r w
  split at k1
  · cases r1 with
    | lst en b r =>
      rename_i n xs
      refine ⟨held n xs, h1, _, c1, by unfold iSeq; rw [e1, bind_ok]; simp only [srcD, en], g1, G1, r, fun k hk => ?_, k1⟩
      show k[n]? = _
      rw [hk n (List.getElem?_eq_some_iff.mp en).1 b]; exact en
  · cases r1 with
    | tup r => exact ⟨still _, h1, _, c1, by unfold iSeq; rw [e1, bind_ok]; rfl, g1, G1, r, fun k hk => trivial, k1⟩
  · exact k1.elim
def rangeT (lo : Int) (n : Nat) : List T := (List.range n).map fun (i : Nat) => T.int (lo + (i : Int))
theorem rangeT_rd {p : Nat} {B : Nat → Prop} {h : AH} (lo : Int) (n : Nat) : Rds p B h (rangeD lo n) (rangeT lo n) := by
  unfold rangeD rangeT
  generalize List.range n = l
  induction l with
  | nil => exact .nil
  | cons a l ih => exact .cons (.int _) ih
def wR1 (f : WE) : WI := fun τ c Q => f τ c fun x c1 => match x with | .int j => (-(2 ^ 62) ≤ j ∧ j < 2 ^ 62) ∧ Q (rangeT 0 j.toNat) c1 | _ => False
def wR2 (f g : WE) : WI := fun τ c Q => f τ c fun x c1 => g τ c1 fun y c2 => match x, y with | .int i, .int j => (-(2 ^ 62) ≤ i ∧ i < 2 ^ 62 ∧ -(2 ^ 62) ≤ j ∧ j < 2 ^ 62) ∧ Q (rangeT i (j - i).toNat) c2 | _, _ => False
theorem jis_r1 {f : EF} {φ : WE} (a : JE S O f φ) : JIS S O (iR1 (aCons f aNil)) (wR1 φ) := fun p q L B h c σ τ Q G pl r w => by
  obtain ⟨x, h1, tx, c1, e1, g1, G1, r1, k1⟩ := a p q L B h c σ τ _ G pl r w
  split at k1
  · cases r1
    exact ⟨still _, h1, _, c1, by unfold iR1; rw [aCons_d, e1, bind_ok, aNil_d, bind_ok, bind_ok]; exact if_pos k1.1, g1, G1, rangeT_rd _ _, fun k hk => trivial, k1.2⟩
  · exact k1.elim
def enumT (xs : List T) : List T := xs.mapIdx fun i x => .tup [.int (i : Nat), x]
def wEnum (f : WE) : WI := fun τ c Q => f τ c fun x c1 => match x with | .lst ts => Q (enumT ts) c1 | .tup ts => Q (enumT ts) c1 | _ => False
theorem JIS.i {f : IF} {φ : WI} (a : JIS S O f φ) : JI S O f φ := fun p q L B h c σ τ Q G pl r w => by
  obtain ⟨s, h', ts, c', e, g, G', r', k, w⟩ := a p q L B h c σ τ Q G pl r w
  exact ⟨s, h', ts, c', e, g, G', r', fun m hm => k m fun n l b => hm n l fun z => b (z ▸ G.bp), w⟩
abbrev WG := T → TFr → (TFr → Prop) → Prop
abbrev WGs := List T → TFr → (TFr → Prop) → Prop
def JG (O : List Nat) (g : GF) (γ : WG) : Prop := ∀ (p L : Nat) (B : Nat → Prop) (h : AH) (d : D) (t : T) (σ : Fr) (τ : TFr) (Q : TFr → Prop), Rd p B h d t → RF p B L O h σ τ → γ t τ Q → ∃ σ' τ', g d σ h = .ok σ' h ∧ RF p B L O h σ' τ' ∧ Q τ'
def JGs (O : List Nat) (g : GFs) (γ : WGs) : Prop := ∀ (p L : Nat) (B : Nat → Prop) (h : AH) (d : List D) (t : List T) (σ : Fr) (τ : TFr) (Q : TFr → Prop), Rds p B h d t → RF p B L O h σ τ → γ t τ Q → ∃ σ' τ', g d σ h = .ok σ' h ∧ RF p B L O h σ' τ' ∧ Q τ'
def wgSet (i : Nat) : WG := fun t τ Q => Q (τ.set i (some t))
theorem RF.set {p L : Nat} {B : Nat → Prop} {h : AH} {σ : Fr} {τ : TFr} {d : D} {t : T} (r : RF p B L O h σ τ) (i : Nat) (hi : i ∉ O) (rd : Rd p B h d t) : RF p B L O h (σ.set i (some d)) (τ.set i (some t)) := by
  refine ⟨by simp [r.len], fun j u ho e => ?_, fun j u ho e => ?_, fun j k n t' u ho ho' ne e1 e2 e3 e4 => ?_⟩
  · by_cases q : i = j
    · subst q
      have hl : i < τ.length := by
        have := (List.getElem?_eq_some_iff.mp e).1
        simpa using this
      rw [List.getElem?_set_self hl] at e
      cases e
      exact ⟨d, List.getElem?_set_self (by rw [r.len]; exact hl), rd⟩
    · rw [List.getElem?_set_ne q] at e ⊢
      exact r.va j u ho e
  · have q : i ≠ j := fun z => hi (z ▸ ho)
    rw [List.getElem?_set_ne q] at e ⊢
    exact r.ow j u ho e
  · have q : i ≠ j := fun z => hi (z ▸ ho)
    have q' : i ≠ k := fun z => hi (z ▸ ho')
    rw [List.getElem?_set_ne q] at e1 e3
    rw [List.getElem?_set_ne q'] at e2 e4
    exact r.nd j k n t' u ho ho' ne e1 e2 e3 e4
theorem jg_set (i : Nat) (hi : i ∉ O := by decide) : JG O (gSet i) (wgSet i) := fun p L B h d t σ τ Q rd r w => ⟨_, _, rfl, r.set i hi rd, w⟩
def wgNil : WGs := fun ts τ Q => match ts with | [] => Q τ | _ => False
def wgCons (g : WG) (r : WGs) : WGs := fun ts τ Q => match ts with | t :: ts => g t τ fun τ1 => r ts τ1 Q | [] => False
theorem jgs_nil : JGs O gsNil wgNil := fun p L B h d t σ τ Q rd r w => by
  unfold wgNil at w
  split at w
  · cases rd; exact ⟨σ, τ, rfl, r, w⟩
  · exact w.elim
theorem jgs_cons {g : GF} {gs : GFs} {γ : WG} {γs : WGs} (a : JG O g γ) (b : JGs O gs γs) : JGs O (gsCons g gs) (wgCons γ γs) := fun p L B h d t σ τ Q rd r w => by
  unfold wgCons at w
  split at w
  · cases rd with
    | cons r1 r2 =>
      obtain ⟨σ1, τ1, e1, R1, w1⟩ := a p L B h _ _ σ τ _ r1 r w
      obtain ⟨σ2, τ2, e2, R2, w2⟩ := b p L B h _ _ σ1 τ1 _ r2 R1 w1
      exact ⟨σ2, τ2, by rw [gsCons_d, e1, bind_ok, e2], R2, w2⟩
  · exact w.elim
def wgSeq (n : Nat) (g : WGs) : WG := fun t τ Q => match t with
  | .tup ts => ts.length = n ∧ g ts τ Q
  | .lst ts => ts.length = n ∧ g ts τ Q
  | _ => False
theorem jg_seq {n : Nat} {g : GFs} {γ : WGs} (a : JGs O g γ) : JG O (gSeq n g) (wgSeq n γ) := fun p L B h d t σ τ Q rd r w => by
  unfold wgSeq at w
  split at w
  · obtain ⟨xs, rx, e⟩ := RdX.seq (.inr (.inl rd))
    obtain ⟨σ1, τ1, e1, R1, w1⟩ := a p L B h xs _ σ τ _ rx r w.2
    exact ⟨σ1, τ1, by rw [gSeq_d, e]; simp only [rx.length, w.1, if_true]; exact e1, R1, w1⟩
  · obtain ⟨xs, rx, e⟩ := RdX.seq (.inl (.inl rd))
    obtain ⟨σ1, τ1, e1, R1, w1⟩ := a p L B h xs _ σ τ _ rx r w.2
    exact ⟨σ1, τ1, by rw [gSeq_d, e]; simp only [rx.length, w.1, if_true]; exact e1, R1, w1⟩
  · exact w.elim
def wipeT (τ : TFr) : List Nat → TFr
  | [] => τ
  | v :: vs => (wipeT τ vs).set v none
theorem RF.wipe1 {p L : Nat} {B : Nat → Prop} {h : AH} {σ : Fr} {τ : TFr} (r : RF p B L O h σ τ) (i : Nat) (hi : i ∉ O) : RF p B L O h (σ.set i none) (τ.set i none) := by
  refine ⟨by simp [r.len], fun j u ho e => ?_, fun j u ho e => ?_, fun j k n t' u ho ho' ne e1 e2 e3 e4 => ?_⟩
  · by_cases q : i = j
    · subst q
      have hl : i < τ.length := by
        have := (List.getElem?_eq_some_iff.mp e).1
        simpa using this
      rw [List.getElem?_set_self hl] at e
      cases e
    · rw [List.getElem?_set_ne q] at e ⊢
      exact r.va j u ho e
  · have q : i ≠ j := fun z => hi (z ▸ ho)
    rw [List.getElem?_set_ne q] at e ⊢
    exact r.ow j u ho e
  · have q : i ≠ j := fun z => hi (z ▸ ho)
    have q' : i ≠ k := fun z => hi (z ▸ ho')
    rw [List.getElem?_set_ne q] at e1 e3
    rw [List.getElem?_set_ne q'] at e2 e4
    exact r.nd j k n t' u ho ho' ne e1 e2 e3 e4
theorem RF.wipe {p L : Nat} {B : Nat → Prop} {h : AH} {σ : Fr} {τ : TFr} (r : RF p B L O h σ τ) : ∀ vs : List Nat, (∀ v ∈ vs, v ∉ O) → RF p B L O h (wipeD σ vs) (wipeT τ vs)
  | [], _ => r
  | v :: vs, k => (RF.wipe r vs fun u hu => k u (List.mem_cons_of_mem _ hu)).wipe1 v (k v (by simp))
theorem RF.blk {p L : Nat} {B B' : Nat → Prop} {h : AH} {σ : Fr} {τ : TFr} (r : RF p B L O h σ τ) (k : ∀ n, B' n → B n ∨ h.length ≤ n) (k' : ∀ n, B n → B' n) : RF p B' L O h σ τ := by
  refine ⟨r.len, fun i t ho e => ?_, fun i t ho e => ?_, r.nd⟩
  · obtain ⟨d, h1, h2⟩ := r.va i t ho e
    exact ⟨d, h1, h2.blk k⟩
  · obtain ⟨n, h1, h2, h3, h4⟩ := r.ow i t ho e
    refine ⟨n, h1, k' n h2, h3, ?_⟩
    cases h4 with
    | lst e' r => exact .lst e' (r.blk k)
    | dct e' r => exact .dct e' (r.blk k)
def wlc (g : WG) (t : WT) (e : WE) (τ0 : TFr) : List T → List T → Nat → QT → Prop
  | [], acc, c, Q => Q (.lst acc) c
  | x :: xs, acc, c, Q => g x τ0 fun τ1 => t τ1 c fun b c1 => if b = true then e τ1 c1 fun y c2 => acc.length < sizeLine ∧ wlc g t e τ0 xs (acc ++ [y]) c2 Q else wlc g t e τ0 xs acc c1 Q
def wLC (f : WI) (vs : List Nat) (g : WG) (t : WT) (e : WE) : WE := fun τ c Q => f τ c fun ts c1 => wlc g t e (wipeT τ vs) ts [] c1 Q
theorem Good.blk {p q : Nat} {B : Nat → Prop} {h : AH} {c n : Nat} (G : Good S p q B h c) (l : n < h.length) : Good S p q (fun m => B m ∨ m = n) h c :=
  ⟨G.pn, .inl G.bp, .inl G.bq, fun m b => by rcases b with b | b; exact G.al m b; omega, G.cl⟩
theorem Good.unblk {p q : Nat} {B B' : Nat → Prop} {h : AH} {c : Nat} (G : Good S p q B' h c) (k : ∀ m, B m → B' m) (bp : B p) (bq : B q) : Good S p q B h c :=
  ⟨G.pn, bp, bq, fun m b => G.al m (k m b), G.cl⟩
theorem lc_core {vs : List Nat} {g : GF} {t : TF} {e : EF} {γ : WG} {θ : WT} {φ : WE} (hv : ∀ v ∈ vs, v ∉ O) (jg : JG O g γ) (jt : JT S O t θ) (je : JE S O e φ)
    {p q L n : Nat} {B : Nat → Prop} {s : Src} {h0 : AH} {σ : Fr} {τ : TFr} {Q : QT} (pl : p < L) (hn : h0.length ≤ n) (nb : n ≠ p) (nq : n ≠ q) (hc : ∀ k, (∀ m, m < h0.length → m ≠ p → k[m]? = h0[m]?) → s.chk k)
    (own_ne : ∀ (i : Nat) (u : T) (m : Nat), i ∈ O → τ[i]? = some (some u) → σ[i]? = some (some (.ref m)) → m ≠ n) :
    ∀ (xs : List D) (ts : List T) (acc : List D) (ta : List T) (h : AH) (c : Nat), (∀ m, m < h0.length → m ≠ p → h[m]? = h0[m]?) → Good S p q (fun m => B m ∨ m = n) h c → RF p (fun m => B m ∨ m = n) L O h σ τ → Rds p (fun m => B m ∨ m = n) h xs ts →
      h[n]? = some (.lst acc) → Rds p (fun m => B m ∨ m = n) h acc ta → wlc γ θ φ (wipeT τ vs) ts ta c Q →
      ∃ h' acc' ta' c', lcD s vs g t e n σ xs h = .ok () h' ∧ h.length ≤ h'.length ∧ (∀ m, m < h.length → m ≠ p → m ≠ n → h'[m]? = h[m]?) ∧ Good S p q (fun m => B m ∨ m = n) h' c' ∧ h'[n]? = some (.lst acc') ∧ Rds p (fun m => B m ∨ m = n) h' acc' ta' ∧ Q (.lst ta') c'
  | [], _, acc, ta, h, c, hk, G, r, .nil, en, ra, w => by
    refine ⟨h, acc, ta, c, ?_, Nat.le_refl _, fun _ _ _ _ => rfl, G, en, ra, w⟩
    unfold lcD
    exact if_pos (hc h hk)
  | x :: xs, _, acc, ta, h, c, hk, G, r, .cons rx rxs, en, ra, w => by
    have bp := G.bp
    obtain ⟨σ1, τ1, e1, R1, w1⟩ := jg p L _ h _ _ _ _ _ rx (r.wipe vs hv) w
    obtain ⟨b, h1, c1, e2, g1, G1, w2⟩ := jt p q L _ h c σ1 τ1 _ G pl R1 w1
    have hk1 : ∀ m, m < h0.length → m ≠ p → h1[m]? = h0[m]? := fun m l ne => by
      by_cases z : m < h.length
      · rw [g1.at_ m z ne, hk m l ne]
      · have e3 := hk m l ne
        rw [List.getElem?_eq_none (by omega), List.getElem?_eq_getElem l] at e3
        cases e3
    have hnl : n < h.length := (List.getElem?_eq_some_iff.mp en).1
    cases b with
    | false =>
      rw [if_neg Bool.false_ne_true] at w2
      obtain ⟨h', acc', ta', c', e5, l5, k5, G5, en5, r5, q5⟩ := lc_core hv jg jt je pl hn nb nq hc own_ne xs _ acc ta h1 c1 hk1 G1 (r.ge g1 bp pl) (rxs.ge g1 bp) (by rw [g1.at_ n hnl nb]; exact en) (ra.ge g1 bp) w2
      refine ⟨h', acc', ta', c', ?_, Nat.le_trans g1.len l5, fun m l n1 n2 => by rw [k5 m (Nat.lt_of_lt_of_le l g1.len) n1 n2, g1.at_ m l n1], G5, en5, r5, q5⟩
      unfold lcD
      rw [if_pos (hc h hk), e1, bind_ok, e2, bind_ok, if_neg Bool.false_ne_true, e5]
    | true =>
      rw [if_pos rfl] at w2
      obtain ⟨v, h2, tv, c2, e3, g2, G2, rv, w3⟩ := je p q L _ h1 c1 σ1 τ1 _ G1 pl (R1.ge g1 bp pl) w2
      have g12 := g1.trans g2
      have en2 : h2[n]? = some (.lst acc) := by rw [g12.at_ n hnl nb]; exact en
      have ra2 := ra.ge g12 bp
      have hl2 : acc.length < sizeLine := by rw [ra.length]; exact w3.1
      have k3 : ∀ m, m < h2.length → ¬ (B m ∨ m = n) → (h2.set n (.lst (acc ++ [v])))[m]? = h2[m]? := fun m l nb' => List.getElem?_set_ne fun z => nb' (.inr z.symm)
      have ra3 : Rds p (fun m => B m ∨ m = n) (h2.set n (.lst (acc ++ [v]))) (acc ++ [v]) (ta ++ [tv]) := (ra2.app (.cons rv .nil)).up k3 (by simp)
      have G3 : Good S p q (fun m => B m ∨ m = n) (h2.set n (.lst (acc ++ [v]))) c2 := by
        refine ⟨S.keep G2.pn (List.getElem?_set_ne nb) ?_, G2.bp, G2.bq, fun m b => by rw [List.length_set]; exact G2.al m b, G2.cl.set ?_⟩
        · exact List.getElem?_set_ne nq
        · exact (ra2.app (.cons rv .nil)).isBelow
      have R3 : RF p (fun m => B m ∨ m = n) L O (h2.set n (.lst (acc ++ [v]))) σ τ := by
        have R2 := r.ge g12 bp pl
        refine ⟨R2.len, fun i t ho e => ?_, fun i t ho e => ?_, R2.nd⟩
        · obtain ⟨d, q1, q2⟩ := R2.va i t ho e
          exact ⟨d, q1, q2.up k3 (by simp)⟩
        · obtain ⟨m, q1, q2, q3, q4⟩ := R2.ow i t ho e
          have hm : m ≠ n := own_ne i t m ho e q1
          refine ⟨m, q1, q2, q3, ?_⟩
          cases q4 with
          | lst e' r' => exact .lst (by rw [List.getElem?_set_ne (Ne.symm hm)]; exact e') (r'.up k3 (by simp))
          | dct e' r' => exact .dct (by rw [List.getElem?_set_ne (Ne.symm hm)]; exact e') (r'.up k3 (by simp))
      have rxs3 := (rxs.ge g12 bp).up k3 (by simp)
      have hn2 : n < h2.length := Nat.lt_of_lt_of_le hnl g12.len
      have hk3 : ∀ m, m < h0.length → m ≠ p → (h2.set n (.lst (acc ++ [v])))[m]? = h0[m]? := fun m l ne => by
        rw [List.getElem?_set_ne (by omega), g2.at_ m ?_ ne, hk1 m l ne]
        have e3 := hk1 m l ne
        rw [List.getElem?_eq_getElem l] at e3
        exact (List.getElem?_eq_some_iff.mp e3).1
      obtain ⟨h', acc', ta', c', e5, l5, k5, G5, en5, r5, q5⟩ := lc_core hv jg jt je pl hn nb nq hc own_ne xs _ (acc ++ [v]) (ta ++ [tv]) (h2.set n (.lst (acc ++ [v]))) c2 hk3 G3 R3 rxs3 (List.getElem?_set_self hn2) ra3 w3.2
      refine ⟨h', acc', ta', c', ?_, by have := g12.len; rw [List.length_set] at l5; omega, fun m l n1 n2 => by rw [k5 m (by rw [List.length_set]; have := g12.len; omega) n1 n2, List.getElem?_set_ne (Ne.symm n2), g12.at_ m l n1], G5, en5, r5, q5⟩
      unfold lcD
      rw [if_pos (hc h hk), e1, bind_ok, e2, bind_ok, if_pos rfl, e3, bind_ok]
      simp only [en2]
      rw [if_pos hl2, e5]
theorem jn_lc {f : IF} {vs : List Nat} {g : GF} {t : TF} {e : EF} {ι : WI} {γ : WG} {θ : WT} {φ : WE} (hv : ∀ v ∈ vs, v ∉ O) (ji : JI S O f ι) (jg : JG O g γ) (jt : JT S O t θ) (je : JE S O e φ) : JN S O (eLC f vs g t e) (wLC ι vs γ θ φ) := fun p q L B h c σ τ Q G pl r w => by
  obtain ⟨s, h1, ts, c1, e1, g1, G1, r1, hc, w1⟩ := ji p q L B h c σ τ _ G pl r w
  have R1 := r.ge g1 G.bp pl
  have gA : Ge p h1 (h1 ++ [.lst []]) := Ge.app
  have GA := (G1.app (o := .lst []) rfl).blk (n := h1.length) (by simp)
  have k1 : ∀ n, (B n ∨ n = h1.length) → B n ∨ h1.length ≤ n := fun n b => by rcases b with b | b; exact .inl b; exact .inr (by omega)
  have RA : RF p (fun m => B m ∨ m = h1.length) L O (h1 ++ [.lst []]) σ τ := (R1.blk k1 fun n b => .inl b).ge gA (.inl G.bp) pl
  obtain ⟨l1, l2, _⟩ := S.loc G1.pn
  obtain ⟨h', acc', ta', c', e5, l5, k5, G5, en5, r5, q5⟩ := lc_core (S := S) (O := O) (vs := vs) (g := g) (t := t) (e := e) (B := B) (s := s) (h0 := h1) (n := h1.length) (σ := σ) (τ := τ) (Q := Q) hv jg jt je pl (Nat.le_refl _) (by omega) (by omega) hc
    (fun i u m ho e' e'' => by
      obtain ⟨m', q1, q2, q3, q4⟩ := R1.ow i u ho e'
      rw [q1] at e''
      cases e''
      have := q4.lt; omega)
    s.items ts [] [] (h1 ++ [.lst []]) c1 (fun m l ne => gA.at_ m l ne) GA RA ((r1.blk k1).ge gA (.inl G.bp)) (by rw [List.getElem?_append_right (Nat.le_refl _)]; simp) .nil w1
  have l6 : (h1 ++ [AO.lst []]).length = h1.length + 1 := by simp
  refine ⟨h1.length, h', .lst ta', c', by unfold eLC; rw [e1, bind_ok, e5, bind_ok], g1.len, g1.trans ⟨by omega, fun m l ne => by rw [k5 m (by omega) ne (by omega), gA.at_ m l ne]⟩, G5.unblk (fun m b => .inl b) G.bp G.bq, .lst en5 r5, q5⟩
end
end EV
set_option Elab.async false
set_option linter.all false
set_option autoImplicit false
set_option maxRecDepth 100000
namespace EV
open PySem PySem.Spec L2
inductive TFl where
  | next (τ : TFr) | brk (τ : TFr) | cont (τ : TFr) | ret (t : T)
abbrev QS := TFl → Nat → Prop
abbrev WS := TFr → Nat → QS → Prop
structure Step (S : PenSys) (p q L : Nat) (B : Nat → Prop) (h : AH) (B' : Nat → Prop) (h' : AH) (c' : Nat) : Prop where
  len : h.length ≤ h'.length
  at_ : ∀ n, n < h.length → n ≠ p → (¬ B n ∨ n < L) → h'[n]? = h[n]?
  good : Good S p q B' h' c'
  new : ∀ m, B' m → B m ∨ h.length ≤ m
  old : ∀ m, m < L → B m → B' m
section
variable {S : PenSys} {p q L : Nat} {B B1 B2 : Nat → Prop} {h h1 h2 : AH} {c c1 c2 : Nat}
theorem Step.of_ge (g : Ge p h h1) (G : Good S p q B h1 c1) : Step S p q L B h B h1 c1 := ⟨g.len, fun n l ne _ => g.at_ n l ne, G, fun m b => .inl b, fun m _ b => b⟩
theorem Step.trans (a : Step S p q L B h B1 h1 c1) (b : Step S p q L B1 h1 B2 h2 c2) : Step S p q L B h B2 h2 c2 := by
  refine ⟨Nat.le_trans a.len b.len, fun n l ne k => ?_, b.good, fun m z => ?_, fun m l z => b.old m l (a.old m l z)⟩
  · rw [b.at_ n (Nat.lt_of_lt_of_le l a.len) ne ?_, a.at_ n l ne k]
    rcases k with k | k
    · refine .inl fun z => ?_
      rcases a.new n z with z | z
      · exact k z
      · omega
    · exact .inr k
  · rcases b.new m z with z | z
    · exact a.new m z
    · exact .inr (by have := a.len; omega)
inductive RdR (p L : Nat) (B : Nat → Prop) (h : AH) : Bool → D → T → Prop
  | val {v : D} {t : T} : Rd p B h v t → RdR p L B h false v t
  | own {N : Bool} {n : Nat} {t : T} : L ≤ n → Own p (fun m => B m ∨ m = n) h n t → RdR p L B h N (.ref n) t
inductive FlR (p L : Nat) (B : Nat → Prop) (N : Bool) (O Ob : List Nat) (h : AH) : Fl → TFl → Prop
  | next {σ : Fr} {τ : TFr} : RF p B L O h σ τ → FlR p L B N O Ob h (.next σ) (.next τ)
  | brk {σ : Fr} {τ : TFr} : RF p B L Ob h σ τ → FlR p L B N O Ob h (.brk σ) (.brk τ)
  | cont {σ : Fr} {τ : TFr} : RF p B L Ob h σ τ → FlR p L B N O Ob h (.cont σ) (.cont τ)
  | ret {v : D} {t : T} : RdR p L B h N v t → FlR p L B N O Ob h (.ret v) (.ret t)
end
def JS (S : PenSys) (N : Bool) (O O' Ob : List Nat) (f : SF) (φ : WS) : Prop := ∀ (p q L : Nat) (B : Nat → Prop) (h : AH) (c : Nat) (σ : Fr) (τ : TFr) (Q : QS), Good S p q B h c → p < L → q < L → L ≤ h.length → RF p B L O h σ τ → φ τ c Q →
  ∃ fl h' tfl c' B', f σ h = .ok fl h' ∧ Step S p q L B h B' h' c' ∧ FlR p L B' N O' Ob h' fl tfl ∧ Q tfl c'
section
variable {S : PenSys} {N : Bool} {O O' O1 O2 Ob : List Nat}
def wsNext : WS := fun τ c Q => Q (.next τ) c
def wsBrk : WS := fun τ c Q => Q (.brk τ) c
def wsCont : WS := fun τ c Q => Q (.cont τ) c
theorem js_next : JS S N O O Ob sNext wsNext := fun p q L B h c σ τ Q G pl ql hL r w => ⟨_, h, _, c, B, rfl, Step.of_ge Ge.refl G, .next r, w⟩
def wsSeq (f g : WS) : WS := fun τ c Q => f τ c fun fl c1 => match fl with | .next τ1 => g τ1 c1 Q | fl => Q fl c1
theorem js_seq {f g : SF} {φ ψ : WS} (a : JS S N O O1 Ob f φ) (b : JS S N O1 O2 Ob g ψ) : JS S N O O2 Ob (sSeq f g) (wsSeq φ ψ) := fun p q L B h c σ τ Q G pl ql hL r w => by
  obtain ⟨fl, h1, tfl, c1, B1, e1, s1, r1, w1⟩ := a p q L B h c σ τ _ G pl ql hL r w
  cases r1 with
  | next r1 =>
    obtain ⟨fl, h2, tfl, c2, B2, e2, s2, r2, w2⟩ := b p q L B1 h1 c1 _ _ Q s1.good pl ql (Nat.le_trans hL s1.len) r1 w1
    exact ⟨fl, h2, tfl, c2, B2, by rw [sSeq_d, e1, bind_ok]; exact e2, s1.trans s2, r2, w2⟩
  | brk r1 => exact ⟨_, h1, _, c1, B1, by rw [sSeq_d, e1, bind_ok], s1, .brk r1, w1⟩
  | cont r1 => exact ⟨_, h1, _, c1, B1, by rw [sSeq_d, e1, bind_ok], s1, .cont r1, w1⟩
  | ret r1 => exact ⟨_, h1, _, c1, B1, by rw [sSeq_d, e1, bind_ok], s1, .ret r1, w1⟩
def wsIf (t : WT) (f g : WS) : WS := fun τ c Q => t τ c fun b c1 => if b = true then f τ c1 Q else g τ c1 Q
theorem js_if {t : TF} {f g : SF} {θ : WT} {φ ψ : WS} (k : JT S O t θ) (a : JS S N O O' Ob f φ) (b : JS S N O O' Ob g ψ) : JS S N O O' Ob (sIf t f g) (wsIf θ φ ψ) := fun p q L B h c σ τ Q G pl ql hL r w => by
  obtain ⟨x, h1, c1, e1, g1, G1, w1⟩ := k p q L B h c σ τ _ G pl r w
  have s1 : Step S p q L B h B h1 c1 := Step.of_ge g1 G1
  cases x with
  | true =>
    obtain ⟨fl, h2, tfl, c2, B2, e2, s2, r2, w2⟩ := a p q L B h1 c1 σ τ Q G1 pl ql (Nat.le_trans hL g1.len) (r.ge g1 G.bp pl) (by simpa using w1)
    exact ⟨fl, h2, tfl, c2, B2, by rw [sIf_d, e1, bind_ok, if_pos rfl, e2], s1.trans s2, r2, w2⟩
  | false =>
    obtain ⟨fl, h2, tfl, c2, B2, e2, s2, r2, w2⟩ := b p q L B h1 c1 σ τ Q G1 pl ql (Nat.le_trans hL g1.len) (r.ge g1 G.bp pl) (by simpa using w1)
    exact ⟨fl, h2, tfl, c2, B2, by rw [sIf_d, e1, bind_ok, if_neg Bool.false_ne_true, e2], s1.trans s2, r2, w2⟩
def wsExpr (f : WE) : WS := fun τ c Q => f τ c fun _ c1 => Q (.next τ) c1
def wsRet (f : WE) : WS := fun τ c Q => f τ c fun x c1 => Q (.ret x) c1
theorem js_ret {f : EF} {φ : WE} (a : JE S O f φ) : JS S false O O' Ob (sRet f) (wsRet φ) := fun p q L B h c σ τ Q G pl ql hL r w => by
  obtain ⟨x, h1, tx, c1, e1, g1, G1, r1, k1⟩ := a p q L B h c σ τ _ G pl r w
  exact ⟨_, h1, _, c1, B, by rw [sRet_d, e1, bind_ok], Step.of_ge g1 G1, .ret (.val r1), k1⟩
theorem RF.rel {p q L : Nat} {B : Nat → Prop} {h : AH} {c : Nat} {σ : Fr} {τ : TFr} (r : RF p B L O h σ τ) (G : Good S p q B h c) (pl : p < L) (ql : q < L) (ho : ∀ i ∈ O', i ∈ O) :
    ∃ B', RF p B' L O' h σ τ ∧ Good S p q B' h c ∧ (∀ m, B' m → B m) ∧ (∀ m, m < L → B m → B' m) := by
  refine ⟨fun m => B m ∧ ∀ i t, i ∈ O → i ∉ O' → τ[i]? = some (some t) → σ[i]? = some (some (.ref m)) → False, ⟨r.len, fun i t hi e => ?_, fun i t hi e => ?_, fun i j n t u hi hj => r.nd i j n t u (ho i hi) (ho j hj)⟩, ⟨G.pn, ⟨G.bp, ?_⟩, ⟨G.bq, ?_⟩, fun m b => G.al m b.1, G.cl⟩, fun m b => b.1, fun m l b => ⟨b, ?_⟩⟩
  · by_cases q' : i ∈ O
    · obtain ⟨n, h1, h2, h3, h4⟩ := r.ow i t q' e
      refine ⟨_, h1, ?_⟩
      have nb : ¬ (B n ∧ ∀ i t, i ∈ O → i ∉ O' → τ[i]? = some (some t) → σ[i]? = some (some (.ref n)) → False) := fun z => z.2 i t q' hi e h1
      cases h4 with
      | lst e' r' => exact .lst e' nb (r'.blk fun m b => .inl b.1)
      | dct e' r' => exact .dct e' nb (r'.blk fun m b => .inl b.1)
    · obtain ⟨d, h1, h2⟩ := r.va i t q' e
      exact ⟨d, h1, h2.blk fun m b => .inl b.1⟩
  · obtain ⟨n, h1, h2, h3, h4⟩ := r.ow i t (ho i hi) e
    refine ⟨n, h1, ⟨h2, fun j u hj hj' e' e'' => ?_⟩, h3, ?_⟩
    · by_cases z : i = j
      · subst z; exact hj' hi
      · exact r.nd i j n t u (ho i hi) hj z e e' h1 e''
    · cases h4 with
      | lst e' r' => exact .lst e' (r'.blk fun m b => .inl b.1)
      | dct e' r' => exact .dct e' (r'.blk fun m b => .inl b.1)
  · intro i t hi _ e e'
    obtain ⟨n, h1, h2, h3, h4⟩ := r.ow i t hi e
    rw [h1] at e'; cases e'; omega
  · intro i t hi _ e e'
    obtain ⟨n, h1, h2, h3, h4⟩ := r.ow i t hi e
    rw [h1] at e'; cases e'; omega
  · intro i t hi _ e e'
    obtain ⟨n, h1, h2, h3, h4⟩ := r.ow i t hi e
    rw [h1] at e'; cases e'; omega
theorem JS.pre {f : SF} {φ : WS} (a : JS S N O' O2 Ob f φ) (ho : ∀ i ∈ O', i ∈ O := by decide) : JS S N O O2 Ob f φ := fun p q L B h c σ τ Q G pl ql hL r w => by
  obtain ⟨B', R', G', k1, k2⟩ := r.rel G pl ql ho
  obtain ⟨fl, h2, tfl, c2, B2, e2, s2, r2, w2⟩ := a p q L B' h c σ τ Q G' pl ql hL R' w
  refine ⟨fl, h2, tfl, c2, B2, e2, ⟨s2.len, fun n l ne k => s2.at_ n l ne ?_, s2.good, fun m b => ?_, fun m l b => s2.old m l (k2 m l b)⟩, r2, w2⟩
  · rcases k with k | k
    · exact .inl fun z => k (k1 n z)
    · exact .inr k
  · rcases s2.new m b with b | b
    · exact .inl (k1 m b)
    · exact .inr b
theorem JS.post {f : SF} {φ : WS} (a : JS S N O O1 Ob f φ) (ho : ∀ i ∈ O2, i ∈ O1 := by decide) : JS S N O O2 Ob f φ := fun p q L B h c σ τ Q G pl ql hL r w => by
  obtain ⟨fl, h1, tfl, c1, B1, e1, s1, r1, w1⟩ := a p q L B h c σ τ _ G pl ql hL r w
  cases r1 with
  | next r1 =>
    obtain ⟨B', R', G', k1, k2⟩ := r1.rel s1.good pl ql ho
    exact ⟨_, h1, _, c1, B', e1, ⟨s1.len, s1.at_, G', fun m b => s1.new m (k1 m b), fun m l b => k2 m l (s1.old m l b)⟩, .next R', w1⟩
  | brk r1 => exact ⟨_, h1, _, c1, B1, e1, s1, .brk r1, w1⟩
  | cont r1 => exact ⟨_, h1, _, c1, B1, e1, s1, .cont r1, w1⟩
  | ret r1 => exact ⟨_, h1, _, c1, B1, e1, s1, .ret r1, w1⟩
def wsSet (i : Nat) (f : WE) : WS := fun τ c Q => f τ c fun x c1 => Q (.next (τ.set i (some x))) c1
theorem js_set (i : Nat) {f : EF} {φ : WE} (a : JE S O f φ) (hi : i ∉ O := by decide) : JS S N O O Ob (sSet i f) (wsSet i φ) := fun p q L B h c σ τ Q G pl ql hL r w => by
  obtain ⟨x, h1, tx, c1, e1, g1, G1, r1, k1⟩ := a p q L B h c σ τ _ G pl r w
  exact ⟨_, h1, _, c1, B, by rw [sSet_d, e1, bind_ok], Step.of_ge g1 G1, .next ((r.ge g1 G.bp pl).set i hi r1), k1⟩
def wsPar (i j : Nat) (f g : WE) : WS := fun τ c Q => f τ c fun x c1 => g τ c1 fun y c2 => Q (.next ((τ.set i (some x)).set j (some y))) c2
theorem js_par (i j : Nat) {f g : EF} {φ ψ : WE} (a : JE S O f φ) (b : JE S O g ψ) (hi : i ∉ O := by decide) (hj : j ∉ O := by decide) : JS S N O O Ob (sPar i j (aCons f (aCons g aNil))) (wsPar i j φ ψ) := fun p q L B h c σ τ Q G pl ql hL r w => by
  obtain ⟨x, h1, tx, c1, e1, g1, G1, r1, k1⟩ := a p q L B h c σ τ _ G pl r w
  obtain ⟨y, h2, ty, c2, e2, g2, G2, r2, k2⟩ := b p q L B h1 c1 σ τ _ G1 pl (r.ge g1 G.bp pl) k1
  exact ⟨_, h2, _, c2, B, by rw [sPar_d, aCons_d, e1, bind_ok, aCons_d, e2, bind_ok, aNil_d, bind_ok, bind_ok, bind_ok], Step.of_ge (g1.trans g2) G2, .next (((r.ge (g1.trans g2) G.bp pl).set i hi (r1.ge g2 G.bp)).set j hj r2), k2⟩
def wsAsg (f : WE) (g : WG) : WS := fun τ c Q => f τ c fun x c1 => g x τ fun τ1 => Q (.next τ1) c1
theorem js_asg {f : EF} {g : GF} {φ : WE} {γ : WG} (a : JE S O f φ) (b : JG O g γ) : JS S N O O Ob (sAsg f g) (wsAsg φ γ) := fun p q L B h c σ τ Q G pl ql hL r w => by
  obtain ⟨x, h1, tx, c1, e1, g1, G1, r1, k1⟩ := a p q L B h c σ τ _ G pl r w
  obtain ⟨σ2, τ2, e2, R2, k2⟩ := b p L B h1 _ _ σ τ _ r1 (r.ge g1 G.bp pl) k1
  exact ⟨_, h1, _, c1, B, by rw [sAsg_d, e1, bind_ok, e2, bind_ok], Step.of_ge g1 G1, .next R2, k2⟩
theorem RF.mut {p q L : Nat} {B : Nat → Prop} {h : AH} {c n i : Nat} {σ : Fr} {τ : TFr} {o : AO} {t : T} (r : RF p B L O h σ τ) (G : Good S p q B h c) (pl : p < L) (ql : q < L) (hi : i ∈ O) (ei : ∃ u, τ[i]? = some (some u)) (en : σ[i]? = some (some (.ref n)))
    (ho : belowO h.length o = true) (on : ∀ h', h'.length = h.length → (∀ m, m < h.length → ¬ B m → h'[m]? = h[m]?) → h'[n]? = some o → Own p B h' n t) : Step S p q L B h B (h.set n o) c ∧ RF p B L O (h.set n o) σ (τ.set i (some t)) := by
  obtain ⟨u, ei⟩ := ei
  obtain ⟨n', e1, b1, l1, o1⟩ := r.ow i u hi ei
  rw [en] at e1
  cases e1
  have hn := o1.lt
  have k : ∀ m, m < h.length → ¬ B m → (h.set n o)[m]? = h[m]? := fun m l b => List.getElem?_set_ne fun z => b (by rw [← z]; exact b1)
  refine ⟨⟨by simp, fun m l ne k => ?_, ⟨S.keep G.pn (List.getElem?_set_ne (by omega)) (List.getElem?_set_ne (by omega)), G.bp, G.bq, fun m b => by rw [List.length_set]; exact G.al m b, G.cl.set ho⟩, fun m b => .inl b, fun m _ b => b⟩, ⟨by simp [r.len], fun j v hj e => ?_, fun j v hj e => ?_, fun j k m t' v hj hk ne e1 e2 e3 e4 => ?_⟩⟩
  · refine List.getElem?_set_ne fun z => ?_
    subst z
    rcases k with k | k
    · exact k b1
    · omega
  · have z : i ≠ j := fun z => hj (z ▸ hi)
    rw [List.getElem?_set_ne z] at e
    obtain ⟨d, q1, q2⟩ := r.va j v hj e
    exact ⟨d, q1, q2.up k (by simp)⟩
  · by_cases z : i = j
    · subst z
      have hl : i < τ.length := by
        have := (List.getElem?_eq_some_iff.mp e).1
        simpa using this
      rw [List.getElem?_set_self hl] at e
      cases e
      exact ⟨n, en, b1, l1, on _ (by simp) k (List.getElem?_set_self hn)⟩
    · rw [List.getElem?_set_ne z] at e
      obtain ⟨m, q1, q2, q3, q4⟩ := r.ow j v hj e
      have ne : n ≠ m := fun y => by subst y; exact r.nd i j n u v hi hj z ei e en q1
      refine ⟨m, q1, q2, q3, ?_⟩
      cases q4 with
      | lst e' r' => exact .lst (by rw [List.getElem?_set_ne ne]; exact e') (r'.up k (by simp))
      | dct e' r' => exact .dct (by rw [List.getElem?_set_ne ne]; exact e') (r'.up k (by simp))
  · have u1 : ∃ t', τ[j]? = some (some t') := by
      by_cases z : i = j
      · subst z; exact ⟨u, ei⟩
      · rw [List.getElem?_set_ne z] at e1; exact ⟨_, e1⟩
    have u2 : ∃ t', τ[k]? = some (some t') := by
      by_cases z : i = k
      · subst z; exact ⟨u, ei⟩
      · rw [List.getElem?_set_ne z] at e2; exact ⟨_, e2⟩
    obtain ⟨a1, u1⟩ := u1
    obtain ⟨a2, u2⟩ := u2
    exact r.nd j k m a1 a2 hj hk ne u1 u2 e3 e4
def wsAppend (i : Nat) (f : WE) : WS := fun τ c Q => f τ c fun x c1 => match τ[i]? with | some (some (.lst xs)) => xs.length < sizeLine ∧ Q (.next (τ.set i (some (.lst (xs ++ [x]))))) c1 | _ => False
def wsReverse (i : Nat) : WS := fun τ c Q => match τ[i]? with | some (some (.lst xs)) => Q (.next (τ.set i (some (.lst xs.reverse)))) c | _ => False
open Classical in
noncomputable def tput (kvs : List (T × T)) (k v : T) : List (T × T) := if (kvs.any fun kv => decide (kv.1 = k)) = true then kvs.map (fun kv => if kv.1 = k then (kv.1, v) else kv) else kvs ++ [(k, v)]
open Classical in
theorem Rdk.anyk {p : Nat} {B : Nat → Prop} {h : AH} {k : Key} : ∀ {xs : List (Key × D)} {ts : List (T × T)}, Rdk p B h xs ts → (xs.any fun kv => decide (kv.1 = k)) = (ts.any fun kv => decide (kv.1 = kT k))
  | _, _, .nil => rfl
  | _, _, .cons (k := k') a b => by
    simp only [List.any_cons, Rdk.anyk b]
    congr 1
    by_cases z : k' = k
    · subst z; simp
    · have z' : ¬ kT k' = kT k := fun y => z (kT_inj y)
      rw [decide_eq_false z, decide_eq_false z']
open Classical in
theorem Rdk.mapk {p : Nat} {B : Nat → Prop} {h : AH} {k : Key} {x : D} {t : T} (r : Rd p B h x t) : ∀ {xs : List (Key × D)} {ts : List (T × T)}, Rdk p B h xs ts → Rdk p B h (xs.map fun kv => if kv.1 = k then (kv.1, x) else kv) (ts.map fun kv => if kv.1 = kT k then (kv.1, t) else kv)
  | _, _, .nil => .nil
  | _, _, .cons (k := k') a b => by
    simp only [List.map_cons]
    by_cases z : k' = k
    · subst z; rw [if_pos rfl, if_pos rfl]; exact .cons r (Rdk.mapk r b)
    · rw [if_neg z, if_neg fun y => z (kT_inj y)]; exact .cons a (Rdk.mapk r b)
theorem Rdk.app {p : Nat} {B : Nat → Prop} {h : AH} : ∀ {xs : List (Key × D)} {ts : List (T × T)} {xs' : List (Key × D)} {ts' : List (T × T)}, Rdk p B h xs ts → Rdk p B h xs' ts' → Rdk p B h (xs ++ xs') (ts ++ ts')
  | _, _, _, _, .nil, s => s
  | _, _, _, _, .cons a b, s => .cons a (Rdk.app b s)
theorem Rdk.put {p : Nat} {B : Nat → Prop} {h : AH} {k : Key} {x : D} {t : T} (r : Rd p B h x t) {xs : List (Key × D)} {ts : List (T × T)} (rk : Rdk p B h xs ts) : Rdk p B h (dput xs k x) (tput ts (kT k) t) := by
  unfold dput tput
  rw [rk.anyk (k := k)]
  split
  · exact rk.mapk r
  · exact rk.app (.cons r .nil)
def wfor (γ : WG) (β : WS) : List T → TFr → Nat → QS → Prop
  | [], τ, c, Q => Q (.next τ) c
  | x :: xs, τ, c, Q => γ x τ fun τ1 => β τ1 c fun fl c1 => match fl with
    | .next τ2 => wfor γ β xs τ2 c1 Q
    | .cont τ2 => wfor γ β xs τ2 c1 Q
    | .brk τ2 => Q (.next τ2) c1
    | .ret t => Q (.ret t) c1
def wsFor (f : WI) (γ : WG) (β : WS) : WS := fun τ c Q => f τ c fun ts c1 => wfor γ β ts τ c1 Q
theorem Rds.step {p q L : Nat} {B B' : Nat → Prop} {h h' : AH} {c : Nat} (st : Step S p q L B h B' h' c) (bp : B p) {d : List D} {t : List T} (r : Rds p B h d t) : Rds p B' h' d t := by
  have r1 : Rds p (fun m => B' m ∨ B m) h d t := r.blk fun n b => by
    rcases b with b | b
    · exact st.new n b
    · exact .inl b
  have r2 : Rds p (fun m => B' m ∨ B m) h' d t := r1.up (fun n l b => st.at_ n l (fun z => b (.inr (by rw [z]; exact bp))) (.inl fun z => b (.inr z))) st.len
  exact r2.blk fun n b => .inl (.inl b)
theorem forD_cons {s : Src} {g : GF} {b : SF} {x : D} {xs : List D} {σ σ1 : Fr} {h h1 h2 : AH} {fl : Fl} (ck : s.chk h) (e1 : g x σ h = .ok σ1 h1) (e2 : b σ1 h1 = .ok fl h2) : forD s g b (x :: xs) σ h = (match (generalizing := false) fl with
      | .next σ2 => forD s g b xs σ2 h2
      | .cont σ2 => forD s g b xs σ2 h2
      | .brk σ2 => .ok (.next σ2) h2
      | .ret v => .ok (.ret v) h2) := by
  conv => lhs; unfold forD
  rw [if_pos ck, e1, bind_ok, e2, bind_ok]
  all_goals (cases fl <;> rfl)
theorem whileD_t {t : TF} {b : SF} {n : Nat} {σ : Fr} {h h1 h2 : AH} {fl : Fl} (e1 : t σ h = .ok true h1) (e2 : b σ h1 = .ok fl h2) : whileD t b (n + 1) σ h = (match (generalizing := false) fl with
      | .next σ2 => whileD t b n σ2 h2
      | .cont σ2 => whileD t b n σ2 h2
      | .brk σ2 => .ok (.next σ2) h2
      | .ret v => .ok (.ret v) h2) := by
  conv => lhs; unfold whileD
  rw [e1, bind_ok, if_pos rfl, e2, bind_ok]
  all_goals (cases fl <;> rfl)
theorem for_core {g : GF} {b : SF} {γ : WG} {β : WS} (jg : JG O g γ) (jb : JS S N O O O b β) {p q L : Nat} {B0 : Nat → Prop} {s : Src} {h0 : AH} (pl : p < L) (ql : q < L) (hL0 : L ≤ h0.length)
    (hc : ∀ k, (∀ n, n < h0.length → ¬ B0 n → k[n]? = h0[n]?) → s.chk k) (bp : B0 p) {Q : QS} :
    ∀ (xs : List D) (ts : List T) (B : Nat → Prop) (h : AH) (c : Nat) (σ : Fr) (τ : TFr), Step S p q L B0 h0 B h c → RF p B L O h σ τ → Rds p B0 h0 xs ts → wfor γ β ts τ c Q →
      ∃ fl h' tfl c' B', forD s g b xs σ h = .ok fl h' ∧ Step S p q L B0 h0 B' h' c' ∧ FlR p L B' N O Ob h' fl tfl ∧ Q tfl c'
  | [], _, B, h, c, σ, τ, st, r, .nil, w => by
    refine ⟨_, h, _, c, B, ?_, st, .next r, w⟩
    unfold forD
    exact if_pos (hc h fun n l b => st.at_ n l (fun z => b (by rw [z]; exact bp)) (.inl b))
  | x :: xs, t :: ts, B, h, c, σ, τ, st, r, .cons rx rxs, w => by
    have ck : s.chk h := hc h fun n l b => st.at_ n l (fun z => b (by rw [z]; exact bp)) (.inl b)
    have rx' : Rd p B h x t := by
      have := Rds.step st bp (.cons rx .nil)
      cases this with | cons a _ => exact a
    obtain ⟨σ1, τ1, e1, R1, w1⟩ := jg p L B h x t σ τ _ rx' r w
    obtain ⟨fl, h1, tfl, c1, B1, e2, s1, r1, w2⟩ := jb p q L B h c σ1 τ1 _ st.good pl ql (Nat.le_trans hL0 st.len) R1 w1
    have st1 := st.trans s1
    cases r1 with
    | next r1 =>
      obtain ⟨fl, h', tfl, c', B', e3, st', r', w'⟩ := for_core jg jb pl ql hL0 hc bp xs ts B1 h1 c1 _ _ st1 r1 rxs w2
      exact ⟨fl, h', tfl, c', B', (forD_cons ck e1 e2).trans e3, st', r', w'⟩
    | cont r1 =>
      obtain ⟨fl, h', tfl, c', B', e3, st', r', w'⟩ := for_core jg jb pl ql hL0 hc bp xs ts B1 h1 c1 _ _ st1 r1 rxs w2
      exact ⟨fl, h', tfl, c', B', (forD_cons ck e1 e2).trans e3, st', r', w'⟩
    | brk r1 => exact ⟨_, h1, _, c1, B1, forD_cons ck e1 e2, st1, .next r1, w2⟩
    | ret r1 => exact ⟨_, h1, _, c1, B1, forD_cons ck e1 e2, st1, .ret r1, w2⟩
theorem js_for {f : IF} {g : GF} {b : SF} {ι : WI} {γ : WG} {β : WS} (ji : JIS S O f ι) (jg : JG O g γ) (jb : JS S N O O O b β) : JS S N O O Ob (sFor f g b) (wsFor ι γ β) := fun p q L B h c σ τ Q G pl ql hL r w => by
  obtain ⟨s, h1, ts, c1, e1, g1, G1, r1, hc, w1⟩ := ji p q L B h c σ τ _ G pl r w
  obtain ⟨fl, h', tfl, c', B', e3, st', r', w'⟩ := for_core (Ob := Ob) jg jb pl ql (Nat.le_trans hL g1.len) hc G.bp s.items ts B h1 c1 σ τ (Step.of_ge Ge.refl G1) (r.ge g1 G.bp pl) r1 w1
  exact ⟨fl, h', tfl, c', B', by unfold sFor; rw [e1, bind_ok, e3], (Step.of_ge g1 G1).trans st', r', w'⟩
def wwhile (θ : WT) (β : WS) : Nat → TFr → Nat → QS → Prop
  | 0, _, _, _ => False
  | n + 1, τ, c, Q => θ τ c fun b c1 => if b = true then β τ c1 fun fl c2 => (match fl with
    | .next τ2 => wwhile θ β n τ2 c2 Q
    | .cont τ2 => wwhile θ β n τ2 c2 Q
    | .brk τ2 => Q (.next τ2) c2
    | .ret t => Q (.ret t) c2) else Q (.next τ) c1
theorem while_core {t : TF} {b : SF} {θ : WT} {β : WS} (jt : JT S O t θ) (jb : JS S N O O O b β) {p q L : Nat} (pl : p < L) (ql : q < L) {Q : QS} :
    ∀ (n : Nat) (B : Nat → Prop) (h : AH) (c : Nat) (σ : Fr) (τ : TFr), Good S p q B h c → L ≤ h.length → RF p B L O h σ τ → wwhile θ β n τ c Q →
      ∃ fl h' tfl c' B', whileD t b n σ h = .ok fl h' ∧ Step S p q L B h B' h' c' ∧ FlR p L B' N O Ob h' fl tfl ∧ Q tfl c'
  | 0, B, h, c, σ, τ, G, hL, r, w => w.elim
  | n + 1, B, h, c, σ, τ, G, hL, r, w => by
    obtain ⟨x, h1, c1, e1, g1, G1, w1⟩ := jt p q L B h c σ τ _ G pl r w
    have R1 := r.ge g1 G.bp pl
    have s1 : Step S p q L B h B h1 c1 := Step.of_ge g1 G1
    cases x with
    | false => exact ⟨_, h1, _, c1, B, by unfold whileD; rw [e1, bind_ok, if_neg Bool.false_ne_true], s1, .next R1, by simpa using w1⟩
    | true =>
      rw [if_pos rfl] at w1
      obtain ⟨fl, h2, tfl, c2, B2, e2, s2, r2, w2⟩ := jb p q L B h1 c1 σ τ _ G1 pl ql (Nat.le_trans hL g1.len) R1 w1
      have st := s1.trans s2
      cases r2 with
      | next r1 =>
        obtain ⟨fl, h', tfl, c', B', e3, st', r', w'⟩ := while_core jt jb pl ql n B2 h2 c2 _ _ s2.good (Nat.le_trans hL st.len) r1 w2
        exact ⟨fl, h', tfl, c', B', (whileD_t e1 e2).trans e3, st.trans st', r', w'⟩
      | cont r1 =>
        obtain ⟨fl, h', tfl, c', B', e3, st', r', w'⟩ := while_core jt jb pl ql n B2 h2 c2 _ _ s2.good (Nat.le_trans hL st.len) r1 w2
        exact ⟨fl, h', tfl, c', B', (whileD_t e1 e2).trans e3, st.trans st', r', w'⟩
      | brk r1 => exact ⟨_, h2, _, c2, B2, whileD_t e1 e2, st, .next r1, w2⟩
      | ret r1 => exact ⟨_, h2, _, c2, B2, whileD_t e1 e2, st, .ret r1, w2⟩
def wsWhile (m : TFr → Nat) (θ : WT) (β : WS) : WS := fun τ c Q => wwhile θ β (m τ) τ c Q
def mIntT (i : Nat) : TFr → Nat := fun τ => match τ[i]? with | some (some (.int z)) => z.natAbs + 1 | _ => 0
theorem js_while (i : Nat) {t : TF} {b : SF} {θ : WT} {β : WS} (jt : JT S O t θ) (jb : JS S N O O O b β) (hi : i ∉ O := by decide) : JS S N O O Ob (sWhile (mInt i) t b) (wsWhile (mIntT i) θ β) := fun p q L B h c σ τ Q G pl ql hL r w => by
  unfold wsWhile mIntT at w
  split at w
  · rename_i z e
    obtain ⟨d, h1, h2⟩ := r.va i _ hi e
    cases h2
    have : mInt i σ = z.natAbs + 1 := by unfold mInt; rw [h1]
    unfold sWhile
    rw [this]
    exact while_core jt jb pl ql _ B h c σ τ G hL r w
  · exact w.elim
def startT (n : Nat) (ts : List T) : TFr := ts.map some ++ List.replicate (n - ts.length) none
def wFn (np n : Nat) (β : WS) : WF := fun ts c Q => ts.length = np ∧ β (startT n ts) c fun fl c1 => match fl with
  | .ret t => Q t c1
  | .next _ => Q .non c1
  | _ => False
theorem RF.start {p : Nat} {B : Nat → Prop} {L : Nat} {h : AH} {n : Nat} {ds : List D} {ts : List T} (r : Rds p B h ds ts) : RF p B L [] h (startD n ds) (startT n ts) := by
  refine ⟨by simp [startD, startT, r.length], fun i t _ e => ?_, fun i t hi => (List.not_mem_nil hi).elim, fun i j m t u hi => (List.not_mem_nil hi).elim⟩
  unfold startT at e
  by_cases z : i < ts.length
  · rw [List.getElem?_append_left (by simpa using z), List.getElem?_map] at e
    cases q : ts[i]? with
    | none => rw [q] at e; cases e
    | some t' =>
      rw [q] at e; cases e
      obtain ⟨d, h1, h2⟩ := r.get q
      refine ⟨d, ?_, h2⟩
      unfold startD
      rw [List.getElem?_append_left (by simp [r.length]; exact z), List.getElem?_map, h1]; rfl
  · rw [List.getElem?_append_right (by simpa using z), List.getElem?_replicate] at e
    split at e <;> cases e
theorem cut_good {p q : Nat} {B : Nat → Prop} {h h' : AH} {c : Nat} {v : D} {t : T} (cl : Closed h) (al : ∀ n, B n → n < h.length) (g : Ge p h h') (G : Good S p q B h' c) (r : Rd p B h' v t) : Ge p h (cut h h' v) ∧ Good S p q B (cut h h' v) c ∧ Rd p B (cut h h' v) v t := by
  unfold cut
  split
  · rename_i k
    have hl : (h'.take h.length).length = h.length := by rw [List.length_take]; have := g.len; omega
    obtain ⟨l1, l2, _⟩ := S.loc G.pn
    refine ⟨⟨by omega, fun n l ne => by rw [List.getElem?_take_of_lt l, g.at_ n l ne]⟩, ⟨S.keep G.pn (List.getElem?_take_of_lt (al p G.bp)) (List.getElem?_take_of_lt (al q G.bq)), G.bp, G.bq, fun n b => by rw [hl]; exact al n b, fun n o e => ?_⟩, r.cut cl (g.k G.bp) g.len k.1⟩
    rw [hl]
    have hn : n < h.length := by rw [← hl]; exact (List.getElem?_eq_some_iff.mp e).1
    rw [List.getElem?_take_of_lt hn] at e
    rcases k.2 n hn with z | ⟨o', z1, z2⟩
    · rw [e] at z; exact cl n o z.symm
    · rw [e] at z1; cases z1; exact z2
  · exact ⟨g, G, r⟩
theorem jf_of {np n : Nat} {b : SF} {β : WS} (jb : JS S false [] O' [] b β) : JF S (mkFn np n b) (wFn np n β) := fun p q B h c ds ts Q G r w => by
  obtain ⟨hn, w⟩ := w
  obtain ⟨pl, ql, _⟩ := S.loc G.pn
  obtain ⟨fl, h', tfl, c', B', e, st, rf, k⟩ := jb p q h.length B h c _ _ _ G pl ql (Nat.le_refl _) (RF.start r) w
  have ge : Ge p h h' := ⟨st.len, fun m l ne => st.at_ m l ne (.inr l)⟩
  have bb : ∀ m, B m → B' m := fun m b => st.old m (G.al m b) b
  have G' : Good S p q B h' c' := st.good.unblk bb G.bp G.bq
  cases rf with
  | next rf =>
    obtain ⟨a1, a2, a3⟩ := cut_good (v := .non) (t := .non) G.cl G.al ge G' .non
    exact ⟨.non, _, .non, c', by unfold mkFn; rw [if_pos (by rw [r.length]; exact hn), e], a1, a2, a3, k⟩
  | brk rf => exact k.elim
  | cont rf => exact k.elim
  | ret rf =>
    rename_i v t
    have rd : Rd p B h' v t := by
      cases rf with
      | val r => exact r.blk fun m b => .inl (bb m b)
      | own l o => exact (by
          cases o with
          | lst e r => exact .lst e (fun z => by have := G.al _ z; omega) (r.blk fun m b => .inl (.inl (bb m b)))
          | dct e r => exact .dct e (fun z => by have := G.al _ z; omega) (r.blk fun m b => .inl (.inl (bb m b))))
    obtain ⟨a1, a2, a3⟩ := cut_good G.cl G.al ge G' rd
    exact ⟨v, _, t, c', by unfold mkFn; rw [if_pos (by rw [r.length]; exact hn), e], a1, a2, a3, k⟩
def wFnN (np n : Nat) (β : WS) : WF := fun ts c Q => ts.length = np ∧ β (startT n ts) c fun fl c1 => match fl with
  | .ret t => Q t c1
  | _ => False
def wDraw : WF := fun ts c Q => match ts with
  | [.pen, .int n] => (0 < n ∧ n < 10000000000000 ∧ c < 900000) ∧ ∀ r : Int, 0 ≤ r → r < n → Q (.int r) (c + 1)
  | _ => False
end
end EV
set_option Elab.async false
set_option linter.all false
set_option autoImplicit false
set_option maxRecDepth 100000
namespace EV
open PySem PySem.Spec L2
section
variable {S : PenSys} {N : Bool} {O O' Ob : List Nat}
def wB2 (v : V2) (f g : WE) : WE := fun τ c Q => f τ c fun x c1 => g τ c1 fun y c2 => v x y fun z => Q z c2
def vMax2 : V2 := vI (fun _ _ => True) fun i j => .int (if j > i then j else i)
def vMin2 : V2 := vI (fun _ _ => True) fun i j => .int (if j < i then j else i)
def vInD (neg : Bool) : V2 := fun x y Q => match y with
  | .tup ys => (x.okq ∧ T.plains ys = true ∧ T.deps ys ≤ 39) ∧ Q (.bl (if neg then !(T.pds ys).any (fun z => z.eqv x.pd) else (T.pds ys).any fun z => z.eqv x.pd))
  | .lst ys => (x.okq ∧ T.plains ys = true ∧ T.deps ys ≤ 39) ∧ Q (.bl (if neg then !(T.pds ys).any (fun z => z.eqv x.pd) else (T.pds ys).any fun z => z.eqv x.pd))
  | _ => False
theorem o2_inD (neg : Bool) : O2 S (oInD neg) (vInD neg) := fun p q B h c x y a b Q G rx ry w => by
  have key : ∀ ys, (RdX p B h y (.lst ys) ∨ RdX p B h y (.tup ys)) → ((a.okq ∧ T.plains ys = true ∧ T.deps ys ≤ 39) ∧ Q (.bl (if neg then !(T.pds ys).any (fun z => z.eqv a.pd) else (T.pds ys).any fun z => z.eqv a.pd))) → ∃ z h' t, oInD neg x y h = .ok z h' ∧ Ge p h h' ∧ Good S p q B h' c ∧ Rd p B h' z t ∧ Q t := by
    intro ys ry w
    obtain ⟨xs, r, e⟩ := RdX.seq ry
    obtain ⟨⟨k1, k2, k3⟩, w⟩ := w
    have e1 := rx.toP (n := 39) k1.1 k1.2
    have e2 := r.toP 39 k2 k3
    refine ⟨_, h, _, ?_, Ge.refl, G, .bl _, w⟩
    unfold oInD
    rw [e]
    show (match EV.toP h (39 + 1) x, EV.toPs h (39 + 1) xs with
      | some d, some ds => if (d.canLay0 = true ∧ d.depth ≤ 60) ∧ PyData.canLayAll0 ds = true then R.ok (D.bl (if neg then !ds.any (fun c => PyData.eqv c d) else ds.any fun c => PyData.eqv c d)) h else .bad
      | _, _ => .bad) = _
    rw [e1, e2]
    have := T.pd_dep a
    exact if_pos ⟨⟨T.pd_lay a k1.1, by have := k1.2; omega⟩, T.pds_lay ys k2⟩
  unfold vInD at w
  split at w
  · exact key _ (.inr ry) w
  · exact key _ (.inl ry) w
  · exact w.elim
def T.tru : T → Option Bool
  | .non => some false
  | .bl b => some b
  | .int i => some (i != 0)
  | .tup xs => some (!xs.isEmpty)
  | .lst xs => some (!xs.isEmpty)
  | _ => none
def wTru (f : WE) : WT := fun τ c Q => f τ c fun x c1 => match x.tru with | some b => Q b c1 | none => False
def wsExtend (i : Nat) (f : WE) : WS := fun τ c Q => f τ c fun x c1 => match τ[i]?, x with | some (some (.lst xs)), .lst ys => xs.length + ys.length ≤ sizeLine ∧ Q (.next (τ.set i (some (.lst (xs ++ ys))))) c1 | _, _ => False
end
end EV
set_option Elab.async false
set_option linter.all false
set_option autoImplicit false
set_option maxRecDepth 100000
namespace EV
open PySem PySem.Spec L2
section
variable {S : PenSys} {N : Bool} {O O' Ob : List Nat}
def wRevA (f : WE) : WE := fun τ c Q => f τ c fun x c1 => match x with | .tup xs => Q (.tup xs.reverse) c1 | .lst xs => Q (.lst xs.reverse) c1 | _ => False
theorem j_revA {f : EF} {φ : WE} (a : JX S O f φ) : JE S O (eRevA f) (wRevA φ) := fun p q L B h c σ τ Q G pl r w => by
  obtain ⟨x, h1, tx, c1, e1, g1, G1, r1, k1⟩ := a p q L B h c σ τ _ G pl r w
  split at k1
  · obtain ⟨xs, rfl, r⟩ := r1.tup
    exact ⟨_, h1, _, c1, by unfold eRevA; rw [e1, bind_ok], g1, G1, .tup r.rev, k1⟩
  · obtain ⟨n, xs, r, rfl, e⟩ := r1.lst
    obtain ⟨g2, G2, r2⟩ := G1.newL' r.rev
    exact ⟨_, _, _, c1, by unfold eRevA; rw [e1, bind_ok]; simp only [e, newL], g1.trans g2, G2, r2, k1⟩
  · exact k1.elim
theorem wRevA_d {f : WE} {τ : TFr} {c : Nat} {Q : QT} : wRevA f τ c Q = (f τ c fun x c1 => match x with | .tup xs => Q (.tup xs.reverse) c1 | .lst xs => Q (.lst xs.reverse) c1 | _ => False) := id rfl
theorem vInD_t {neg : Bool} {x : T} {ys : List T} {P : T → Prop} : vInD neg x (.tup ys) P = ((x.okq ∧ T.plains ys = true ∧ T.deps ys ≤ 39) ∧ P (.bl (if neg then !(T.pds ys).any (fun z => z.eqv x.pd) else (T.pds ys).any fun z => z.eqv x.pd))) := id rfl
def wsPar3 (i j l : Nat) (f g k : WE) : WS := fun τ c Q => f τ c fun x c1 => g τ c1 fun y c2 => k τ c2 fun z c3 => Q (.next (((τ.set i (some x)).set j (some y)).set l (some z))) c3
theorem wsPar3_d {i j l : Nat} {f g k : WE} {τ : TFr} {c : Nat} {R : QS} : wsPar3 i j l f g k τ c R = (f τ c fun x c1 => g τ c1 fun y c2 => k τ c2 fun z c3 => R (.next (((τ.set i (some x)).set j (some y)).set l (some z))) c3) := id rfl
end
end EV
set_option Elab.async false
set_option linter.all false
set_option autoImplicit false
set_option maxRecDepth 100000
namespace EV
open PySem PySem.Spec L2
section
variable {S : PenSys} {N : Bool} {O O' Ob : List Nat}
def T.flt : T → Bool
  | .non => true
  | .bl _ => true
  | .int _ => true
  | .str _ => true
  | _ => false
def T.eqf : T → T → Bool
  | .non, .non => true
  | .bl a, .bl b => a == b
  | .bl a, .int b => (if a then 1 else 0) == b
  | .int a, .bl b => a == (if b then 1 else 0)
  | .int a, .int b => a == b
  | .str a, .str b => a == b
  | _, _ => false
theorem RdX.flt {p : Nat} {B : Nat → Prop} {h : AH} {d : D} {t : T} (r : RdX p B h d t) (e : t.flt = true) : flatD d = true ∧ ∀ {d' t'}, RdX p B h d' t' → t'.flt = true → eqF d' d = t'.eqf t := by
  have key : ∀ {d t}, RdX p B h d t → t.flt = true → (d = .non ∧ t = .non) ∨ (∃ b, d = .bl b ∧ t = .bl b) ∨ (∃ i, d = .int i ∧ t = .int i) ∨ ∃ s, d = .str s ∧ t = .str s := by
    intro d t r e
    cases t with
    | non => exact .inl ⟨r.non, rfl⟩
    | bl b => exact .inr (.inl ⟨b, r.bl, rfl⟩)
    | int i => exact .inr (.inr (.inl ⟨i, r.int, rfl⟩))
    | str s => exact .inr (.inr (.inr ⟨s, r.str, rfl⟩))
    | _ => cases e
  have k := key r e
  refine ⟨?_, fun r' e' => ?_⟩
  · rcases k with ⟨rfl, _⟩ | ⟨_, rfl, _⟩ | ⟨_, rfl, _⟩ | ⟨_, rfl, _⟩ <;> rfl
  · rcases k with ⟨rfl, rfl⟩ | ⟨_, rfl, rfl⟩ | ⟨_, rfl, rfl⟩ | ⟨_, rfl, rfl⟩ <;>
      rcases key r' e' with ⟨rfl, rfl⟩ | ⟨_, rfl, rfl⟩ | ⟨_, rfl, rfl⟩ | ⟨_, rfl, rfl⟩ <;> rfl
end
end EV
set_option Elab.async false
set_option linter.all false
set_option autoImplicit false
set_option maxRecDepth 100000
namespace EV
open PySem PySem.W PyProof.Rows
section
variable (r : Nat → Int)
def ev {α : Type} : KasT α → α
  | .ret a => a
  | .ask i j k => ev (k (decide (r i < r j)))
def Rk (p : Array Nat) (i : Nat) : Int := r (p.getD i 0)
def Up (p : Array Nat) (n : Nat) : Prop := ∀ i j, i ≤ j → j < n → Rk r p i ≤ Rk r p j
def Dn (p : Array Nat) (n : Nat) : Prop := ∀ i j, i ≤ j → j < n → Rk r p j ≤ Rk r p i
theorem Dn.congr {p p' : Array Nat} {n : Nat} (h : Dn r p n) (e : ∀ k, Rk r p' k = Rk r p k) : Dn r p' n := fun i j a b => by rw [e, e]; exact h i j a b
theorem Up.congr {p p' : Array Nat} {n : Nat} (h : Up r p n) (e : ∀ k, k < n → Rk r p' k = Rk r p k) : Up r p' n := fun i j a b => by rw [e i (by omega), e j b]; exact h i j a b
structure DnAt (p0 p : Array Nat) (n q : Nat) : Prop where
  perm : p.Perm p0
  one : 1 ≤ n
  hq : q + 1 ≤ n
  dn : Dn r p n
  flat : ∀ k, n - (q + 1) ≤ k → k < n → Rk r p k = Rk r p (n - 1)
theorem DnAt.more {p : Array Nat} {n : Nat} (h : Dn r p n) (h1 : 1 ≤ n) (l : Rk r p n ≤ Rk r p (n - 1)) : Dn r p (n + 1) := fun i j ij jn => by
  by_cases e : j = n
  · subst e
    by_cases e2 : i = j
    · subst e2; exact Int.le_refl _
    · exact Int.le_trans l (h i (j - 1) (by omega) (by omega))
  · exact h i j ij (by omega)
structure RunAt (p0 p : Array Nat) (m : Nat) : Prop where
  perm : p.Perm p0
  one : 1 ≤ m
  up : Up r p m
end
end EV
set_option Elab.async false
set_option linter.all false
set_option autoImplicit false
set_option maxRecDepth 100000
namespace EV
open PySem PyProof.Rows
def LtU (U : Nat) (s : Shared) (y x : Value) (b : Bool) : Prop := ∀ (A : Around), A.units ≤ U → ∀ (prog : Program) (w : World) (E : Value → Shared → Prop) (Q : Value → Shared → Prop), Q (.bool b) s → wpAny (model prog w) A (richCompare .Lt y x) Q E s
def EqU (U : Nat) (s : Shared) (y x : Value) (b : Bool) : Prop := ∀ (A : Around), A.units ≤ U → SeqAt.EqAt A s y x b
inductive LexU (U : Nat) (s : Shared) : List Value → List Value → Bool → Prop
  | nn : LexU U s [] [] false
  | nc {x : Value} {xs : List Value} : LexU U s [] (x :: xs) true
  | cn {x : Value} {xs : List Value} : LexU U s (x :: xs) [] false
  | eq {y x : Value} {ys xs : List Value} {b : Bool} : EqU U s y x true → LexU U s ys xs b → LexU U s (y :: ys) (x :: xs) b
  | ne {y x : Value} {ys xs : List Value} {b : Bool} : EqU U s y x false → LtU U s y x b → LexU U s (y :: ys) (x :: xs) b
section
open PySem.SeqAt
open PySem.AutoSeq1 (wpAny_loadPart')
open PySem.MeetsSeq PySem.MeetsSeq2 PySem.MeetsSeq3
end
end EV
set_option Elab.async false
set_option linter.all false
set_option autoImplicit false
set_option maxRecDepth 100000
namespace EV
open PySem PySem.W PyProof.Rows
mutual
/-- < of data: numbers, texts, tuples of such -/
def ltD : PyData → PyData → Option Bool
  | .int i, .int j => some (decide (i < j))
  | .str x, .str y => some (decide (x.cps.toList < y.cps.toList))
  | .tuple xs, .tuple ys => ltDs xs ys
  | _, _ => none
def ltDs : List PyData → List PyData → Option Bool
  | [], [] => some false
  | [], _ :: _ => some true
  | _ :: _, [] => some false
  | x :: xs, y :: ys => if PyData.eqv x y = true then ltDs xs ys else ltD x y
end
end EV
set_option Elab.async false
set_option linter.all false
set_option autoImplicit false
set_option maxRecDepth 100000
namespace EV
open PySem
mutual
/-- numbers, texts, tuples of such -/
def pure0 : PyData → Bool
  | .int _ => true
  | .str _ => true
  | .tuple xs => pures0 xs
  | _ => false
def pures0 : List PyData → Bool
  | [] => true
  | x :: xs => pure0 x && pures0 xs
end
mutual
/-- data as a row of numbers, in whose order it stands -/
def enc : PyData → List Int
  | .int i => [1, i]
  | .str x => 2 :: (x.cps.toList.map fun (c : Nat) => (c : Int) + 1) ++ [0]
  | .tuple xs => 3 :: encs xs ++ [0]
  | _ => []
def encs : List PyData → List Int
  | [] => []
  | x :: xs => enc x ++ encs xs
end
end EV
set_option Elab.async false
set_option linter.all false
set_option autoImplicit false
set_option maxRecDepth 100000
namespace EV
open PySem PySem.W PyProof.Rows
section
variable (r : Nat → Int) (n : Nat)
def El (p : Array Nat) : Prop := ∀ i, p.getD i 0 < n
theorem El.rev {p : Array Nat} {i j : Nat} (h : El n p) : El n (kas_rev p i j) := fun k => by
  by_cases hj : j ≤ p.size
  · have e := getElem?_mirror_all (xs := p) (i := i) hj k
    unfold kas_rev
    simp only [Array.getD_eq_getD_getElem?]
    rw [e]
    have h1 := h (i + j - 1 - k)
    have h2 := h k
    simp only [Array.getD_eq_getD_getElem?] at h1 h2
    split <;> assumption
  · have key : ∀ (l : List Nat) (xs : Array Nat), El n xs → El n (l.foldl (fun a k => a.swapIfInBounds (i + k) (j - 1 - k)) xs) := by
      intro l
      induction l with
      | nil => intro xs h; exact h
      | cons a l ih =>
        intro xs h
        refine ih _ fun m => ?_
        by_cases c : i + a < xs.size ∧ j - 1 - a < xs.size
        · have e := getElem?_swapIB c.1 c.2 m
          simp only [Array.getD_eq_getD_getElem?]
          rw [e]
          have h1 := h (i + a)
          have h2 := h (j - 1 - a)
          have h3 := h m
          simp only [Array.getD_eq_getD_getElem?] at h1 h2 h3
          repeat' split
          all_goals assumption
        · have : xs.swapIfInBounds (i + a) (j - 1 - a) = xs := by
            unfold Array.swapIfInBounds
            split
            · rename_i c1
              rw [dif_neg (fun c2 => c ⟨c1, c2⟩)]
            · rfl
          show (xs.swapIfInBounds (i + a) (j - 1 - a)).getD m 0 < n
          rw [this]; exact h m
    exact key _ p h k
end
section
def rk (ds : List PyData) (i : Nat) : Int := ((ds.countP fun d => decide (enc d < enc (ds.getD i .none)) : Nat) : Int)
end
end EV
set_option Elab.async false
set_option linter.all false
set_option autoImplicit false
set_option maxRecDepth 100000
namespace EV
open PySem PySem.W PyProof.Rows
section
variable {prog : Program} {w : World} {A : Around} {E : Value → Shared → Prop} {s : Shared}
end
end EV
set_option Elab.async false
set_option linter.all false
set_option autoImplicit false
set_option maxRecDepth 100000
namespace EV
open PySem PySem.W PyProof.Rows
def kb : PyData → Nat
  | .int _ => 0
  | .str _ => 1
  | _ => 2
def kd : PyData → Option Nat
  | .int _ => some 0
  | .str _ => some 1
  | .tuple (x :: _) => some (2 + kb x)
  | _ => none
structure SortOk (ds : List PyData) : Prop where
  few : ds.length < 64
  pure : ∀ d ∈ ds, pure0 d = true
  lay : PyData.canLayAll0 ds = true
  dep : PyData.depthAll ds ≤ 50
  kind : ∃ k, ∀ d ∈ ds, kd d = some k
  cmp : ∀ d ∈ ds, ∀ e ∈ ds, (ltD d e).isSome = true
section
variable {prog : Program} {w : World} {A : Around} {E : Value → Shared → Prop} {s : Shared}
def tyK : Nat → Value
  | 0 => .type "int"
  | 1 => .type "str"
  | _ => .type "tuple"
def kindOf : Nat → SortKind
  | 0 => oneType'
  | 1 => oneType'
  | k + 2 => tuples' (tyK k != Value.type "tuple")
end
end EV
set_option Elab.async false
set_option linter.all false
set_option autoImplicit false
set_option maxRecDepth 100000
namespace EV
open PySem PySem.W PyProof.Rows
end EV
set_option Elab.async false
set_option linter.all false
set_option autoImplicit false
set_option maxRecDepth 100000
namespace EV
open PySem PySem.Spec PyProof.Rows L2
section
variable {X : Cx}
mutual
def ofP : PyData → D
  | .int i => .int i
  | .str x => .str x
  | .tuple xs => .tup (ofPs xs)
  | _ => .non
def ofPs : List PyData → List D
  | [] => []
  | x :: xs => ofP x :: ofPs xs
end
open Classical in
end
end EV
set_option Elab.async false
set_option linter.all false
set_option autoImplicit false
set_option maxRecDepth 100000
namespace EV
open PySem PySem.Spec L2
section
variable {S : PenSys} {N : Bool} {O O' Ob : List Nat}
mutual
def tOf : PyData → T
  | .int i => .int i
  | .str x => .str x
  | .tuple xs => .tup (tOfs xs)
  | _ => .non
def tOfs : List PyData → List T
  | [] => []
  | x :: xs => tOf x :: tOfs xs
end
mutual
theorem rd_of {p : Nat} {B : Nat → Prop} {h : AH} : ∀ (d : PyData), pure0 d = true → Rd p B h (ofP d) (tOf d)
  | .int i, _ => by simp only [ofP, tOf]; exact .int i
  | .str x, _ => by simp only [ofP, tOf]; exact .str x
  | .tuple xs, k => by simp only [ofP, tOf]; exact .tup (rds_of xs (by simpa [pure0] using k))
  | .none, k => by simp [pure0] at k
  | .bool _, k => by simp [pure0] at k
  | .list _, k => by simp [pure0] at k
  | .dict _, k => by simp [pure0] at k
theorem rds_of {p : Nat} {B : Nat → Prop} {h : AH} : ∀ (ds : List PyData), pures0 ds = true → Rds p B h (ofPs ds) (tOfs ds)
  | [], _ => by simp only [ofPs, tOfs]; exact .nil
  | x :: xs, k => by
    simp only [pures0, Bool.and_eq_true] at k
    simp only [ofPs, tOfs]
    exact .cons (rd_of x k.1) (rds_of xs k.2)
end
end
end EV
set_option Elab.async false
set_option linter.all false
set_option autoImplicit false
set_option maxRecDepth 100000
namespace EV
open PySem PySem.Spec L2
section
variable {S : PenSys} {N : Bool} {O O' Ob : List Nat}
theorem wipeT_get {τ : TFr} {i : Nat} {t : T} : ∀ {vs : List Nat}, (wipeT τ vs)[i]? = some (some t) → i ∉ vs ∧ τ[i]? = some (some t)
  | [], e => ⟨by simp, e⟩
  | v :: vs, e => by
    unfold wipeT at e
    by_cases h : v = i
    · subst h
      by_cases l : v < (wipeT τ vs).length
      · rw [List.getElem?_set_self l] at e; cases e
      · rw [List.getElem?_eq_none (by rw [List.length_set]; omega)] at e; cases e
    · rw [List.getElem?_set_ne h] at e
      obtain ⟨a, b⟩ := wipeT_get e
      exact ⟨by simp [Ne.symm h, a], b⟩
theorem wipeT_len {τ : TFr} : ∀ {vs : List Nat}, (wipeT τ vs).length = τ.length
  | [] => rfl
  | v :: vs => by unfold wipeT; rw [List.length_set, wipeT_len]
theorem RF.forget {p L : Nat} {B : Nat → Prop} {h : AH} {σ : Fr} {τ : TFr} (r : RF p B L O h σ τ) : RF p B L [] h σ (wipeT τ O) :=
  ⟨by rw [wipeT_len, r.len], fun i t _ e => by
    obtain ⟨a, b⟩ := wipeT_get e
    exact r.va i t a b, fun i t ho _ => absurd ho (by simp), fun i j n t u ho => absurd ho (by simp)⟩
end
end EV
set_option Elab.async false
set_option linter.all false
set_option autoImplicit false
set_option maxRecDepth 100000
namespace EV
open PySem PyProof.Rows
section
open PySem.SeqAt
open PySem.AutoSeq1 (wpAny_loadPart')
open PySem.MeetsSeq PySem.MeetsSeq2 PySem.MeetsSeq3
end
end EV
set_option Elab.async false
set_option linter.all false
set_option autoImplicit false
set_option maxRecDepth 100000
namespace EV
open PySem PySem.Spec PyProof.Rows L2
section
variable {X : Cx}
end
end EV
set_option Elab.async false
set_option linter.all false
set_option autoImplicit false
set_option maxRecDepth 100000
namespace EV
open PySem PySem.Spec PyProof.Rows L2
section
variable {X : Cx}
end
end EV
set_option Elab.async false
set_option linter.all false
set_option autoImplicit false
set_option maxRecDepth 100000
namespace EV
open PySem PySem.Spec L2
section
variable {S : PenSys} {N : Bool} {O O' Ob : List Nat}
end
end EV
set_option Elab.async false
set_option linter.all false
set_option autoImplicit false
set_option maxRecDepth 100000
namespace EV
open PySem PySem.Spec PyProof.Rows L2
section
variable {X : Cx}
theorem RVs.get? {K : PySem.W.Frag} {ρ : List Addr} {H : Hp} : ∀ {xs : List D} {ys : List V} {i : Nat} {v : D}, RVs K ρ H xs ys → xs[i]? = some v → ∃ y, ys[i]? = some y ∧ RV K ρ H v y
  | _, _, _, _, .nil, e => by simp at e
  | _, _, 0, _, .cons a _, e => by simp at e; subst e; exact ⟨_, rfl, a⟩
  | _, _, i + 1, v, .cons _ b, e => by
    obtain ⟨y, h1, h2⟩ := RVs.get? (i := i) (v := v) b (by simpa using e)
    exact ⟨y, by simpa using h1, h2⟩
end
end EV
set_option Elab.async false
set_option linter.all false
set_option autoImplicit false
set_option maxRecDepth 100000
namespace EV
open PySem PySem.Spec L2
abbrev QM := T → T → Nat → Prop
abbrev WM := TFr → Nat → QM → Prop
def JM (S : PenSys) (O : List Nat) (k : Nat) (f : EF) (φ : WM) : Prop := ∀ (p q L : Nat) (B : Nat → Prop) (h : AH) (c : Nat) (σ : Fr) (τ : TFr) (Q : QM), Good S p q B h c → p < L → q < L → L ≤ h.length → RF p B L O h σ τ → (∃ u, τ[k]? = some (some u)) → φ τ c Q →
  ∃ v h' t u c', f σ h = .ok v h' ∧ h.length ≤ h'.length ∧ (∀ m, m < h.length → m ≠ p → σ[k]? ≠ some (some (.ref m)) → h'[m]? = h[m]?) ∧ Good S p q B h' c' ∧ RF p B L O h' σ (τ.set k (some u)) ∧ Rd p B h' v t ∧ Q t u c'
def JMN (S : PenSys) (O : List Nat) (k : Nat) (f : EF) (φ : WM) : Prop := ∀ (p q L : Nat) (B : Nat → Prop) (h : AH) (c : Nat) (σ : Fr) (τ : TFr) (Q : QM), Good S p q B h c → p < L → q < L → L ≤ h.length → RF p B L O h σ τ → (∃ u, τ[k]? = some (some u)) → φ τ c Q →
  ∃ n h' t u c', f σ h = .ok (.ref n) h' ∧ h.length ≤ n ∧ h.length ≤ h'.length ∧ (∀ m, m < h.length → m ≠ p → σ[k]? ≠ some (some (.ref m)) → h'[m]? = h[m]?) ∧ Good S p q B h' c' ∧ RF p B L O h' σ (τ.set k (some u)) ∧ Own p (fun m => B m ∨ m = n) h' n t ∧ Q t u c'
section
variable {S : PenSys} {N : Bool} {O O' Ob : List Nat} {k : Nat}
theorem JMN.m {f : EF} {φ : WM} (j : JMN S O k f φ) : JM S O k f φ := fun p q L B h c σ τ Q G pl ql hL r ek w => by
  obtain ⟨n, h', t, u, c', e, ln, l1, at1, G', R', o, w'⟩ := j p q L B h c σ τ Q G pl ql hL r ek w
  exact ⟨_, h', t, u, c', e, l1, at1, G', R', o.rd (q := q) fun b => by have := G.al n b; omega, w'⟩
end
end EV
set_option Elab.async false
set_option linter.all false
set_option autoImplicit false
set_option maxRecDepth 100000
namespace EV
open PySem PySem.Spec PyProof.Rows L2
section
variable {X : Cx}
end
end EV
set_option Elab.async false
set_option linter.all false
set_option autoImplicit false
set_option maxRecDepth 100000
namespace EV
open PySem PySem.Spec L2
section
variable {S : PenSys} {O : List Nat}
end
end EV
set_option Elab.async false
set_option linter.all false
set_option autoImplicit false
set_option maxRecDepth 100000
namespace EV
open PySem PySem.Spec PyProof.Rows L2
end EV
set_option Elab.async false
set_option linter.all false
set_option autoImplicit false
set_option maxRecDepth 100000
namespace EV
open PySem PySem.Spec PyProof.Rows L2
section
variable {X : Cx} {a b : Expr} {rest : List Expr} {pos : Pos} {ta tb : TE}
end
section
variable {X : Cx}
end
end EV
set_option Elab.async false
set_option linter.all false
set_option autoImplicit false
set_option maxRecDepth 100000
namespace EV
open PySem PySem.Spec PyProof.Rows L2
section
variable {X : Cx}
theorem st_inD {a b : Expr} {f g : EF} {pos : Pos} (hu : X.A.units + 64 < cLine) (ha : SE X a f) (hb : SE X b g) (hm : behindInMarks .In b = false := by with_unfolding_all rfl) : ST X (.Compare a [.In] [b] pos) (tB (eBin (oInD false) f g)) := st_cmp (op_inD hu) sp_inD ha hb hm
end
end EV
set_option Elab.async false
set_option linter.all false
set_option autoImplicit false
set_option maxRecDepth 100000
namespace EV
open PySem PySem.Spec PyProof.Rows L2
section
variable {X : Cx}
end
end EV
set_option Elab.async false
set_option linter.all false
set_option autoImplicit false
set_option maxRecDepth 100000
namespace EV
open PySem PySem.Spec PyProof.Rows L2
open PySem.SeqAt PySem.MeetsSeq in
theorem dict_no_text (a : Addr) (es : Array DictEntry) (ep : Nat) (od : Option Addr) (os' : Array (Option Value)) (t : Str) (k : Tok) :
    Meets (Builtin.«dict.__eq__» ⟨[.ref a, .str t k], []⟩) (fun _ R st => st.heap.get? a = some { cls := .type "dict", dict := od, data := .dict es ep, slots := os' } ∧ R (.ok (.ret .notImplemented)) st) :=
  .of_wp fun P w Ar R st q => by obtain ⟨x1, x2, x3, x4, x5⟩ := st; obtain ⟨q1, q⟩ := q; have z1 := PySem.F.sub_str_dict; wp_walk using AutoSeq1.wpAny_loadPart' q1; exact ⟨_, rfl, q⟩
open PySem.SeqAt PySem.MeetsSeq in
theorem text_no_dict (a : Addr) (es : Array DictEntry) (ep : Nat) (od : Option Addr) (os' : Array (Option Value)) (t : Str) (k : Tok) :
    Meets (Builtin.«str.__eq__» ⟨[.str t k, .ref a], []⟩) (fun _ R st => st.heap.get? a = some { cls := .type "dict", dict := od, data := .dict es ep, slots := os' } ∧ R (.ok (.ret .notImplemented)) st) :=
  .of_wp fun P w Ar R st q => by obtain ⟨x1, x2, x3, x4, x5⟩ := st; obtain ⟨q1, q⟩ := q; wp_walk using AutoSeq1.wpAny_loadPart' q1, wpAny_load q1; exact ⟨_, rfl, q⟩
open PySem.SeqAt PySem.MeetsSeq in
theorem rc_dict_text {A : Around} {s : Shared} {a : Addr} {o : Obj} {es : Array DictEntry} {ep : Nat} (t : Str) (k : Tok) (ho : s.heap.get? a = some o) (hc : o.cls = .type "dict") (hd : o.data = .dict es ep) (hu : A.units < cLine) : RcAt A s (.ref a) (.str t k) false := fun P w E Q q => by
  obtain ⟨c, od, dt, sl⟩ := o
  simp only at hc hd
  subst hc hd
  refine rc_eq_decline_or (k := false) ⟨_, ho, rfl⟩ (typeIs_str s t k) (by decide) PySem.F.sub_str_dict PySem.F.slot_dict_eq PySem.F.slot_str_eq_refl ?_ ?_ (fun _ z => wpAny_of_eq (rfl : isSame (.ref a) (.str t k) = pure false) z) (.inr hu) q
  · exact fun _ z => call_meets PySem.F.slot_dict_eq ⟨_, ho, rfl⟩ PySem.F.entry_dict_eq (PySem.F.args_dict_eq_2 _ _) (dict_no_text a es ep od sl t k) ⟨ho, z⟩
  · exact fun _ z => call_meets PySem.F.slot_str_eq_refl (typeIs_str s t k) PySem.F.entry_str_eq (PySem.F.args_str_eq_2 _ _) (text_no_dict a es ep od sl t k) ⟨ho, z⟩
section
variable {X : Cx}
inductive NoTx (K : PySem.W.Frag) (H : Hp) : V → Prop
  | non : NoTx K H .non
  | bl (b : Bool) : NoTx K H (.bl b)
  | int (i : Int) : NoTx K H (.int i)
  | lst {a : Addr} {xs : List V} : SqL K H a xs → NoTx K H (.ref a)
  | tup {a : Addr} {xs : List V} : SqT K H a xs → NoTx K H (.ref a)
  | dct {a : Addr} {kvs : List (Key × V)} : H a = some (.dK kvs) → NoTx K H (.ref a)
def rEqS (K : PySem.W.Frag) : R2 := fun x y H Q => ∃ t, y = .str t ∧ ((∃ u, x = .str u ∧ Q (.bl (decide (u = t))) H) ∨ (NoTx K H x ∧ Q (.bl false) H))
theorem op_eqS (hu : X.A.units + 64 < cLine) : OpR X (compareOp .Eq) (rEqS X.K) := by
  intro pins s σ H x y v u Q I rx ry h
  obtain ⟨t, rfl, h⟩ := h
  obtain ⟨k, rfl⟩ := ry
  rcases h with ⟨z, rfl, q⟩ | ⟨n, q⟩
  · obtain ⟨k2, rfl⟩ := rx
    refine SeqAt.RcAt.str_str z k2 t k X.prog X.w _ _ ⟨.bl (z == t), H, I, rfl, ?_⟩
    have : (z == t) = decide (z = t) := by
      by_cases e : z = t
      · subst e; simp
      · rw [decide_eq_false e]; exact beq_eq_false_iff_ne.mpr e
    rw [this]; exact q
  · have fin : EP X pins σ Q (.bool false) s := ⟨.bl false, H, I, rfl, q⟩
    cases n with
    | non => cases rx; exact SeqAt.RcAt.none_str t k X.prog X.w _ _ fin
    | bl b => cases rx; exact SeqAt.RcAt.bool_str b t k X.prog X.w _ _ fin
    | int i => obtain ⟨k2, rfl⟩ := rx; exact SeqAt.RcAt.int_str i k2 t k X.prog X.w _ _ fin
    | lst hs =>
      obtain ⟨its, r, pl, _⟩ := I.list hs
      cases rx
      exact SeqAt.RcAt.list_str t k pl.isList (by omega) X.prog X.w _ _ fin
    | tup hs =>
      obtain ⟨its, r, pl, _⟩ := I.tuple hs
      cases rx
      obtain ⟨o, e1, e2, n, e3⟩ := pl
      exact SeqAt.RcAt.tuple_str t k ⟨o, e1, e2, n, e3⟩ (by omega) X.prog X.w _ _ fin
    | dct e =>
      cases rx
      obtain ⟨_, _, vs, r, o, es, ep, h1, h2, h3⟩ := (show ObjOk X.prog X.w H s.heap _ (.dK _) from I.hok _ _ e)
      exact rc_dict_text t k h1 h2.1 h3.1 (by omega) X.prog X.w _ _ fin
def oEqS : Op2 := fun x y h => match y with
  | .str t => (match x with
    | .str u => .ok (.bl (decide (u = t))) h
    | .non => .ok (.bl false) h
    | .bl _ => .ok (.bl false) h
    | .int _ => .ok (.bl false) h
    | .tup _ => .ok (.bl false) h
    | .fz _ => .ok (.bl false) h
    | .ref n => (match h[n]? with | some _ => .ok (.bl false) h | none => .bad))
  | _ => .bad
theorem sp_eqS {K : PySem.W.Frag} : OpS K oEqS (rEqS K) := by
  intro ρ h H x y x' y' v h' Q rh rx ry e k
  unfold oEqS at e
  split at e
  · cases ry
    refine ⟨_, rfl, ?_⟩
    split at e
    · cases e; cases rx; exact .inl ⟨_, rfl, k ρ _ H Ext.refl rh (.bl _)⟩
    · cases e; cases rx; exact .inr ⟨.non, k ρ _ H Ext.refl rh (.bl _)⟩
    · cases e; cases rx; exact .inr ⟨.bl _, k ρ _ H Ext.refl rh (.bl _)⟩
    · cases e; cases rx; exact .inr ⟨.int _, k ρ _ H Ext.refl rh (.bl _)⟩
    · cases e
      cases rx with
      | tup hs r => exact .inr ⟨.tup hs, k ρ _ H Ext.refl rh (.bl _)⟩
    · cases e
      cases rx with
      | fz hs r => exact .inr ⟨.lst hs.sq, k ρ _ H Ext.refl rh (.bl _)⟩
    · rename_i n
      cases rx with
      | ref hr =>
        split at e
        · rename_i o q0
          cases e
          refine .inr ⟨?_, k ρ _ H Ext.refl rh (.bl _)⟩
          have ob := rh.ob _ _ _ q0 hr
          cases o with
          | lst xs => obtain ⟨ys, e1, _⟩ := ob; exact .lst (SqL.of e1)
          | dct kvs => obtain ⟨ys, e1, _⟩ := ob; exact .dct e1
        · cases e
  · cases e
def rEqU (K : PySem.W.Frag) : R2 := fun x y H Q => ∃ a b xs, x = .ref a ∧ y = .ref b ∧ SqT K H a xs ∧ SqT K H b [] ∧ Q (.bl xs.isEmpty) H
theorem op_eqU (hu : X.A.units + 64 < cLine) : OpR X (compareOp .Eq) (rEqU X.K) := by
  intro pins s σ H x y v u Q I rx ry h
  obtain ⟨a, b, xs, rfl, rfl, h1, h2, q⟩ := h
  cases rx
  cases ry
  obtain ⟨its, r, pl, _⟩ := I.tuple h1
  obtain ⟨its2, r2, pl2, _⟩ := I.tuple h2
  have e2 : its2 = [] := by cases r2; rfl
  subst e2
  obtain ⟨o, e1, c1, n, d1⟩ := pl
  obtain ⟨o2, e2, c2, n2, d2⟩ := pl2
  refine SeqAt.RcAt.tuples (e := fun _ => true) ⟨o, e1, c1, n, d1⟩ ⟨o2, e2, c2, n2, d2⟩ (by omega) (fun j h1 h2 => absurd h2 (by simp)) X.prog X.w _ _ ⟨.bl xs.isEmpty, H, I, ?_, q⟩
  cases r with
  | nil => rfl
  | cons _ _ => rfl
def oEqU : Op2 := fun x y h => match x, y with
  | .tup xs, .tup [] => .ok (.bl xs.isEmpty) h
  | _, _ => .bad
theorem sp_eqU {K : PySem.W.Frag} : OpS K oEqU (rEqU K) := by
  intro ρ h H x y x' y' v h' Q rh rx ry e k
  unfold oEqU at e
  split at e
  · cases e
    cases rx with
    | tup hs r =>
      cases ry with
      | tup hs2 r2 =>
        cases r2
        refine ⟨_, _, _, rfl, rfl, hs, hs2, ?_⟩
        rw [← isEmpty_rel r]
        exact k ρ _ H Ext.refl rh (.bl _)
  · cases e
def rEqL (K : PySem.W.Frag) (ne : Bool) : R2 := fun x y H Q => ∃ a b xs, x = .ref a ∧ y = .ref b ∧ SqL K H a xs ∧ SqL K H b [] ∧ Q (.bl (if ne then !xs.isEmpty else xs.isEmpty)) H
theorem op_eqL (hu : X.A.units + 64 < cLine) : OpR X (compareOp .Eq) (rEqL X.K false) := by
  intro pins s σ H x y v u Q I rx ry h
  obtain ⟨a, b, xs, rfl, rfl, h1, h2, q⟩ := h
  cases rx
  cases ry
  obtain ⟨its, r, pl, _⟩ := I.list h1
  obtain ⟨its2, r2, pl2, _⟩ := I.list h2
  have e2 : its2 = [] := by cases r2; rfl
  subst e2
  cases r with
  | nil => exact SeqAt.RcAt.lists (e := fun _ => true) pl.isList pl2.isList rfl (by omega) (fun j z1 z2 => absurd z2 (by simp)) X.prog X.w _ _ ⟨.bl true, H, I, rfl, q⟩
  | cons _ _ => exact SeqAt.RcAt.lists_lengths pl.isList pl2.isList (by simp) (by omega) X.prog X.w _ _ ⟨.bl false, H, I, rfl, q⟩
theorem op_neL (hu : X.A.units + 64 < cLine) : OpR X (compareOp .NotEq) (rEqL X.K true) := by
  intro pins s σ H x y v u Q I rx ry h
  obtain ⟨a, b, xs, rfl, rfl, h1, h2, q⟩ := h
  cases rx
  cases ry
  obtain ⟨its, r, pl, _⟩ := I.list h1
  obtain ⟨its2, r2, pl2, _⟩ := I.list h2
  have e2 : its2 = [] := by cases r2; rfl
  subst e2
  cases r with
  | nil => exact SeqAt.RcNeAt.lists (e := fun _ => true) pl.isList pl2.isList rfl (by omega) (fun j z1 z2 => absurd z2 (by simp)) X.prog X.w _ _ ⟨.bl false, H, I, rfl, q⟩
  | cons _ _ => exact SeqAt.RcNeAt.lists_lengths pl.isList pl2.isList (by simp) (by omega) X.prog X.w _ _ ⟨.bl true, H, I, rfl, q⟩
def oEqL (ne : Bool) : Op2 := fun x y h => match x, y with
  | .ref n, .ref m => (match h[n]?, h[m]? with | some (.lst xs), some (.lst []) => .ok (.bl (if ne then !xs.isEmpty else xs.isEmpty)) h | _, _ => .bad)
  | _, _ => .bad
theorem sp_eqL {K : PySem.W.Frag} {ne : Bool} : OpS K (oEqL ne) (rEqL K ne) := by
  intro ρ h H x y x' y' v h' Q rh rx ry e k
  unfold oEqL at e
  split at e
  · cases rx with
    | ref hr =>
      cases ry with
      | ref hr2 =>
        split at e
        · rename_i xs q0 q1
          cases e
          obtain ⟨us, hu, r⟩ := rh.ob _ _ _ q0 hr
          obtain ⟨ws, hw, r2⟩ := rh.ob _ _ _ q1 hr2
          cases r2
          refine ⟨_, _, us, rfl, rfl, SqL.of hu, SqL.of hw, ?_⟩
          rw [← isEmpty_rel r]
          exact k ρ _ H Ext.refl rh (.bl _)
        · cases e
  · cases e
def eGet2 (f g t : EF) : EF := fun σ h => (f σ h).bind fun d h1 => match d with
  | .ref n => (match h1[n]? with | some (.dct _) => (g σ h1).bind fun y h2 => (t σ h2).bind fun z h3 => (match h3[n]?, dKey y with | some (.dct kvs), some k => .ok ((dget kvs k).getD z) h3 | _, _ => .bad) | _ => .bad)
  | _ => .bad
theorem se_get2 {o e f : Expr} {apos cpos : Pos} {fo fe ff : EF} (hu : X.A.units + 1 < cLine) (ho : SE X o fo) (he : SE X e fe) (hf : SE X f ff) (hbase : attributeBase o "get" X.env (eval o X.env) = eval o X.env := by rfl)
    (hfew : ((backTo cpos (starEach [e, f] X.env)).all (fun x => !x.1) && (backToKw cpos (keywordEach [] X.env)).all (fun x => x.1.isSome)
      && decide ([e, f].length + ([] : List Keyword).length + (if ([] : List Keyword).isEmpty then 0 else 1) < 30)) = true := by rfl)
    (hline : (apos.endLine == cpos.line) = true := by rfl) (htr : backTo cpos (starEach [e, f] X.env) = [(false, eval e X.env), (false, eval f X.env)] := by rfl) :
    SE X (.Call (.Attribute o "get" apos) [e, f] [] cpos) (eGet2 fo fe ff) := ⟨PE.of (pe_dget2 hu ho.out he.out hf.out ⟨hbase, hfew, hline, htr⟩) fun σ H Q q => by
  obtain ⟨ρ, σa, h, v, h', rh, rs, e, k⟩ := q
  obtain ⟨d, h1, e1, e⟩ := bind_eq e
  refine ⟨ρ, σa, h, d, h1, rh, rs, e1, fun ρ1 x' H1 p1 rh1 rx => ?_⟩
  split at e
  · rename_i n
    cases rx with
    | @ref _ a hr =>
      split at e
      · rename_i kv0 q0
        obtain ⟨ys, hy, ry⟩ := rh1.ob _ _ _ q0 hr
        refine ⟨_, rfl, .inl ⟨ys, .inl hy⟩, ?_⟩
        obtain ⟨y, h2, e2, e⟩ := bind_eq e
        refine ⟨ρ1, σa, h1, y, h2, rh1, rs.up p1, e2, fun ρ2 y' H2 p2 rh2 ry => ?_⟩
        obtain ⟨z, h3, e3, e⟩ := bind_eq e
        refine ⟨ρ2, σa, h2, z, h3, rh2, rs.up (p1.trans p2), e3, fun ρ3 z' H3 p3 rh3 rz => ?_⟩
        split at e
        · rename_i kvs kk q1 q2
          cases e
          obtain ⟨zs, hz, rz2⟩ := rh3.ob _ _ _ q1 (p3.pre _ _ (p2.pre _ _ hr))
          have := dKey_rel q2 ry
          subst this
          rcases rz2.get (k := kk) with ⟨g1, g2⟩ | ⟨u, w, g1, g2, g3⟩
          · refine ⟨none, .inl ⟨zs, kk, .inl hz, rfl, g2.symm⟩, ?_⟩
            rw [g1] at k
            exact k ρ3 _ H3 (p1.trans (p2.trans p3)) rh3 rz
          · refine ⟨some w, .inl ⟨zs, kk, .inl hz, rfl, g2.symm⟩, ?_⟩
            rw [g1] at k
            exact k ρ3 _ H3 (p1.trans (p2.trans p3)) rh3 g3
        · cases e
      · cases e
  · cases e⟩
end
end EV
set_option Elab.async false
set_option linter.all false
set_option autoImplicit false
set_option maxRecDepth 100000
namespace EV
open PySem PySem.Spec L2
section
variable {S : PenSys} {O : List Nat}
theorem Rd.tru {p : Nat} {B : Nat → Prop} {h1 : AH} {x : D} {tx : T} {b : Bool} (r1 : Rd p B h1 x tx) (eb : tx.tru = some b) : truD x h1 = some b := by
  have em : ∀ {xs : List D} {ts : List T}, Rds p B h1 xs ts → xs.isEmpty = ts.isEmpty := fun r => by cases r <;> rfl
  have r1 : RdX p B h1 x tx := .inl r1
  cases tx with
  | non => have := r1.non; subst this; exact eb
  | bl => have := r1.bl; subst this; exact eb
  | int => have := r1.int; subst this; exact eb
  | tup ts => obtain ⟨xs, rfl, r⟩ := r1.tup; simp only [truD, em r]; exact eb
  | lst ts => obtain ⟨n, xs, r, rfl, e⟩ := r1.lst; simp only [truD, e, em r]; exact eb
  | _ => simp [T.tru] at eb
def wOrT (f g : WE) : WE := fun τ c Q => f τ c fun x c1 => match x.tru with | some true => Q x c1 | some false => g τ c1 Q | none => False
def wAndT (f g : WE) : WE := fun τ c Q => f τ c fun x c1 => match x.tru with | some false => Q x c1 | some true => g τ c1 Q | none => False
theorem wOrT_d {f g : WE} {τ : TFr} {c : Nat} {Q : QT} : wOrT f g τ c Q = (f τ c fun x c1 => match x.tru with | some true => Q x c1 | some false => g τ c1 Q | none => False) := id rfl
theorem wAndT_d {f g : WE} {τ : TFr} {c : Nat} {Q : QT} : wAndT f g τ c Q = (f τ c fun x c1 => match x.tru with | some false => Q x c1 | some true => g τ c1 Q | none => False) := id rfl
end
end EV
set_option Elab.async false
set_option linter.all false
set_option autoImplicit false
set_option maxRecDepth 100000
namespace EV
open PySem PySem.Spec L2
section
variable {S : PenSys} {O : List Nat}
def vEqS : V2 := fun x y Q => match y with
  | .str b => (match x with | .str a => Q (.bl (decide (a = b))) | .pen => False | _ => Q (.bl false))
  | _ => False
theorem o2_eqS : O2 S oEqS vEqS := fun p q B h c x y a b Q G rx ry w => by
  unfold vEqS at w
  split at w
  · have := ry.str; subst this
    cases a with
    | non => have := rx.non; subst this; exact ⟨_, h, _, rfl, Ge.refl, G, .bl _, w⟩
    | bl => have := rx.bl; subst this; exact ⟨_, h, _, rfl, Ge.refl, G, .bl _, w⟩
    | int => have := rx.int; subst this; exact ⟨_, h, _, rfl, Ge.refl, G, .bl _, w⟩
    | str => have := rx.str; subst this; exact ⟨_, h, _, rfl, Ge.refl, G, .bl _, w⟩
    | tup => obtain ⟨xs, rfl, r⟩ := rx.tup; exact ⟨_, h, _, rfl, Ge.refl, G, .bl _, w⟩
    | lst => obtain ⟨n, xs, r, rfl, e⟩ := rx.lst; exact ⟨_, h, _, by simp only [oEqS, e], Ge.refl, G, .bl _, w⟩
    | dct => obtain ⟨n, xs, r, rfl, e⟩ := rx.dct; exact ⟨_, h, _, by simp only [oEqS, e], Ge.refl, G, .bl _, w⟩
    | pen => exact w.elim
  · exact w.elim
def vEqU : V2 := fun x y Q => match x, y with
  | .tup xs, .tup [] => Q (.bl xs.isEmpty)
  | _, _ => False
theorem o2_eqU : O2 S oEqU vEqU := fun p q B h c x y a b Q G rx ry w => by
  unfold vEqU at w
  split at w
  · obtain ⟨xs, rfl, r⟩ := rx.tup
    obtain ⟨ys, rfl, r2⟩ := ry.tup
    cases r2
    have em : ∀ {xs : List D} {ts : List T}, Rds p B h xs ts → xs.isEmpty = ts.isEmpty := fun r => by cases r <;> rfl
    exact ⟨_, h, _, by simp only [oEqU, em r], Ge.refl, G, .bl _, w⟩
  · exact w.elim
def vEqL (ne : Bool) : V2 := fun x y Q => match x, y with
  | .lst xs, .lst [] => Q (.bl (if ne then !xs.isEmpty else xs.isEmpty))
  | _, _ => False
theorem o2_eqL (ne : Bool) : O2 S (oEqL ne) (vEqL ne) := fun p q B h c x y a b Q G rx ry w => by
  unfold vEqL at w
  split at w
  · obtain ⟨n, xs, r, rfl, e⟩ := rx.lst
    obtain ⟨m, ys, r2, rfl, e2⟩ := ry.lst
    cases r2
    have em : ∀ {xs : List D} {ts : List T}, Rds p B h xs ts → xs.isEmpty = ts.isEmpty := fun r => by cases r <;> rfl
    exact ⟨_, h, _, by simp only [oEqL, e, e2, em r], Ge.refl, G, .bl _, w⟩
  · exact w.elim
theorem Rdk.getN {p : Nat} {B : Nat → Prop} {h : AH} {k : Key} : ∀ {xs : List (Key × D)} {ts : List (T × T)}, Rdk p B h xs ts → tget ts (kT k) = none → dget xs k = none
  | _, _, .nil, _ => rfl
  | _, _, .cons (k := k') (ts := ts') a b, e => by
    by_cases q : k' = k
    · subst q
      simp [tget, List.find?_cons] at e
    · have q' : ¬ kT k' = kT k := fun z => q (kT_inj z)
      have e' : tget ts' (kT k) = none := by simpa [tget, List.find?_cons, q'] using e
      have := Rdk.getN b e'
      simpa [dget, List.find?_cons, q] using this
noncomputable def wGet2 (f g t : WE) : WE := fun τ c Q => f τ c fun x c1 => g τ c1 fun y c2 => t τ c2 fun z c3 => match x, y with
  | .dct kvs, .int i => Q ((tget kvs (.int i)).getD z) c3
  | .dct kvs, .str i => Q ((tget kvs (.str i)).getD z) c3
  | _, _ => False
theorem eGet2_d {f g t : EF} {σ : Fr} {h : AH} : eGet2 f g t σ h = (f σ h).bind fun d h1 => match d with
  | .ref n => (match h1[n]? with | some (.dct _) => (g σ h1).bind fun y h2 => (t σ h2).bind fun z h3 => (match h3[n]?, dKey y with | some (.dct kvs), some k => .ok ((dget kvs k).getD z) h3 | _, _ => .bad) | _ => .bad)
  | _ => .bad := id rfl
theorem j_get2 {f g t : EF} {φ ψ χ : WE} (a : JE S O f φ) (b : JE S O g ψ) (d : JE S O t χ) : JE S O (eGet2 f g t) (wGet2 φ ψ χ) := fun p q L B h c σ τ Q G pl r w => by
  obtain ⟨x, h1, tx, c1, e1, g1, G1, r1, k1⟩ := a p q L B h c σ τ _ G pl r w
  obtain ⟨y, h2, ty, c2, e2, g2, G2, r2, k2⟩ := b p q L B h1 c1 σ τ _ G1 pl (r.ge g1 G.bp pl) k1
  obtain ⟨z, h3, tz, c3, e3, g3, G3, r3, k3⟩ := d p q L B h2 c2 σ τ _ G2 pl (r.ge (g1.trans g2) G.bp pl) k2
  have fin : ∀ (kvs : List (T × T)) (k : Key), tx = .dct kvs → ty = kT k → Q ((tget kvs (kT k)).getD tz) c3 → ∃ v h' t' c', eGet2 f g t σ h = .ok v h' ∧ Ge p h h' ∧ Good S p q B h' c' ∧ Rd p B h' v t' ∧ Q t' c' := by
    intro kvs k ex ey kq
    subst ex ey
    have r1' := r1.ge (g2.trans g3) G.bp
    cases r1 with
    | dct en bn rn =>
      rename_i n xs
      cases r1' with
      | dct en' bn' rn' =>
        rename_i xs'
        have ek : dKey y = some k := by
          cases k with
          | inl i => have := RdX.int (.inl r2); subst this; rfl
          | inr s => have := RdX.str (.inl r2); subst this; rfl
        cases q : tget kvs (kT k) with
        | none =>
          have := rn'.getN q
          rw [q] at kq
          exact ⟨z, h3, tz, c3, by rw [eGet2_d, e1, bind_ok]; simp only [en]; rw [e2, bind_ok, e3, bind_ok]; simp only [en', ek, this]; rfl, g1.trans (g2.trans g3), G3, r3, kq⟩
        | some t =>
          obtain ⟨u, gu, ru⟩ := rn'.get q
          rw [q] at kq
          exact ⟨u, h3, t, c3, by rw [eGet2_d, e1, bind_ok]; simp only [en]; rw [e2, bind_ok, e3, bind_ok]; simp only [en', ek, gu]; rfl, g1.trans (g2.trans g3), G3, ru, kq⟩
  split at k3
  · exact fin _ (.inl _) rfl rfl k3
  · exact fin _ (.inr _) rfl rfl k3
  · exact k3.elim
def pK : List (D × D) → PFs
  | [] => pNil
  | (k, v) :: r => pCons (eK k) (eK v) (pK r)
theorem pK_ok {σ : Fr} {h : AH} : ∀ ps : List (D × D), pK ps σ h = .ok ps h
  | [] => rfl
  | (k, v) :: r => by
    show pCons (eK k) (eK v) (pK r) σ h = _
    rw [pCons_d, eK_d, bind_ok, eK_d, bind_ok, pK_ok r, bind_ok]
theorem jn_dispK {ps : List (D × D)} {kvs m : List (Key × D)} {ts : List (T × T)} (h1 : keysOf ps = some kvs) (h2 : kvs.length ≤ 15) (h3 : mergeD [] kvs = m) (h4 : ∀ p B h, Rdk p B h m ts) : JN S O (eDisp (pK ps)) (wK (.dct ts)) := fun p q L B h c σ τ Q G pl r w => by
  have hb : belowO h.length (.dct m) = true := (h4 p B h).isBelow
  refine ⟨h.length, h ++ [.dct m], .dct ts, c, ?_, Nat.le_refl _, Ge.app, G.app hb, .dct (xs := m) (by rw [List.getElem?_append_right (Nat.le_refl _)]; simp) (h4 _ _ _), w⟩
  unfold eDisp
  rw [pK_ok, bind_ok, List.getElem?_append_right (Nat.le_refl _), Nat.sub_self]
  simp only [List.getElem?_cons_zero, h1]
  rw [if_pos h2, h3, List.set_append_right _ _ (Nat.le_refl _), Nat.sub_self]
  rfl
end
end EV
set_option Elab.async false
set_option linter.all false
set_option autoImplicit false
set_option maxRecDepth 100000
namespace EV
open PySem PySem.Spec L2
section
variable {τ : TFr} {c : Nat} {Q : QT} {R : QS}
theorem wBin_d {v : V2} {f g : WE} : wBin v f g τ c Q = (f τ c fun x c1 => g τ c1 fun y c2 => v x y fun z => Q z c2) := id rfl
theorem wB2_d {v : V2} {f g : WE} : wB2 v f g τ c Q = (f τ c fun x c1 => g τ c1 fun y c2 => v x y fun z => Q z c2) := id rfl
theorem wB1_d {v : V1} {f : WE} : wB1 v f τ c Q = (f τ c fun x c1 => v x fun z => Q z c1) := id rfl
theorem wVar_d {i : Nat} : wVar i τ c Q = (match τ[i]? with | some (some t) => Q t c | _ => False) := id rfl
theorem wK_d {t : T} : wK t τ c Q = Q t c := id rfl
theorem wNil_d {Q : List T → Nat → Prop} : wNil τ c Q = Q [] c := id rfl
theorem wCons_d {f : WE} {g : WA} {Q : List T → Nat → Prop} : wCons f g τ c Q = (f τ c fun x c1 => g τ c1 fun xs c2 => Q (x :: xs) c2) := id rfl
theorem wTup_d {f : WA} : wTup f τ c Q = (f τ c fun ts c1 => ts.length ≤ sizeLine ∧ Q (.tup ts) c1) := id rfl
theorem wLst_d {f : WA} : wLst f τ c Q = (f τ c fun ts c1 => ts.length ≤ sizeLine ∧ Q (.lst ts) c1) := id rfl
theorem wDict0_d : wDict0 τ c Q = Q (.dct []) c := id rfl
theorem wIf_d {t : WT} {f g : WE} : wIf t f g τ c Q = (t τ c fun b c1 => if b = true then f τ c1 Q else g τ c1 Q) := id rfl
theorem wAnd2_d {f g : WE} : wAnd2 f g τ c Q = (f τ c fun x c1 => match x with | .bl true => g τ c1 Q | .bl false => Q (.bl false) c1 | _ => False) := id rfl
theorem wOr2_d {f g : WE} : wOr2 f g τ c Q = (f τ c fun x c1 => match x with | .bl true => Q (.bl true) c1 | .bl false => g τ c1 Q | _ => False) := id rfl
theorem wNot1_d {f : WE} : wNot1 f τ c Q = (f τ c fun x c1 => match x with | .bl b => Q (.bl (!b)) c1 | _ => False) := id rfl
theorem wNeg_d {f : WE} : wNeg f τ c Q = (f τ c fun x c1 => match x with | .int i => Q (.int (-i)) c1 | _ => False) := id rfl
theorem wChain_d {u v : V2} {f g k : WE} : wChain u v f g k τ c Q = (f τ c fun x c1 => g τ c1 fun y c2 => u x y fun z => match z with
  | .bl true => k τ c2 fun w c4 => v y w fun z => Q z c4
  | .bl false => Q (.bl false) c2
  | _ => False) := id rfl
theorem wB_d {f : WE} {Q : Bool → Nat → Prop} : wB f τ c Q = (f τ c fun x c1 => match x with | .bl b => Q b c1 | _ => False) := id rfl
theorem wTru_d {f : WE} {Q : Bool → Nat → Prop} : wTru f τ c Q = (f τ c fun x c1 => match x.tru with | some b => Q b c1 | none => False) := id rfl
theorem wtNot_d {f : WT} {Q : Bool → Nat → Prop} : wtNot f τ c Q = (f τ c fun b c1 => Q (!b) c1) := id rfl
theorem wtAnd_d {f g : WT} {Q : Bool → Nat → Prop} : wtAnd f g τ c Q = (f τ c fun b c1 => if b = true then g τ c1 Q else Q false c1) := id rfl
theorem wtOr_d {f g : WT} {Q : Bool → Nat → Prop} : wtOr f g τ c Q = (f τ c fun b c1 => if b = true then Q true c1 else g τ c1 Q) := id rfl
theorem wtTrue_d {Q : Bool → Nat → Prop} : wtTrue τ c Q = Q true c := id rfl
theorem woNone_d {Q : Option Int → Nat → Prop} : woNone τ c Q = Q none c := id rfl
theorem woSome_d {f : WE} {Q : Option Int → Nat → Prop} : woSome f τ c Q = (f τ c fun x c1 => match x with | .int i => Q (some i) c1 | _ => False) := id rfl
theorem wSl_d {f : WE} {l u : WO} : wSl f l u τ c Q = (f τ c fun x c1 => l τ c1 fun lo c2 => u τ c2 fun hi c3 => match x with
  | .tup xs => Q (.tup (cutT xs lo hi)) c3
  | .lst xs => Q (.lst (cutT xs lo hi)) c3
  | _ => False) := id rfl
theorem wSlL_d {f : WE} {l u : WO} : wSlL f l u τ c Q = (f τ c fun x c1 => l τ c1 fun lo c2 => u τ c2 fun hi c3 => match x with
  | .lst xs => Q (.lst (cutT xs lo hi)) c3
  | _ => False) := id rfl
theorem wApp_d {Φ : WF} {f : WA} : wApp Φ f τ c Q = (f τ c fun ts c1 => Φ ts c1 Q) := id rfl
theorem wAppK_d {Φ : WF} {is : List Nat} {a b : Nat} {f g : WA} : wAppK Φ is a b f g τ c Q = (f τ c fun ts c1 => g τ c1 fun us c2 => (ts.length = a ∧ us.length = b) ∧ Φ (sel is (ts ++ us)) c2 Q) := id rfl
theorem wIsi_d {k : Ty} {f : WE} : wIsi k f τ c Q = (f τ c fun x k1 => match x.ty with | some t => Q (.bl (isSub t k)) k1 | none => False) := id rfl
theorem wSeq_d {f : WE} {Q : List T → Nat → Prop} : wSeq f τ c Q = (f τ c fun x c1 => match x with | .lst ts => Q ts c1 | .tup ts => Q ts c1 | _ => False) := id rfl
theorem wR1_d {f : WE} {Q : List T → Nat → Prop} : wR1 f τ c Q = (f τ c fun x c1 => match x with | .int j => (-(2 ^ 62) ≤ j ∧ j < 2 ^ 62) ∧ Q (rangeT 0 j.toNat) c1 | _ => False) := id rfl
theorem wR2_d {f g : WE} {Q : List T → Nat → Prop} : wR2 f g τ c Q = (f τ c fun x c1 => g τ c1 fun y c2 => match x, y with | .int i, .int j => (-(2 ^ 62) ≤ i ∧ i < 2 ^ 62 ∧ -(2 ^ 62) ≤ j ∧ j < 2 ^ 62) ∧ Q (rangeT i (j - i).toNat) c2 | _, _ => False) := id rfl
theorem wEnum_d {f : WE} {Q : List T → Nat → Prop} : wEnum f τ c Q = (f τ c fun x c1 => match x with | .lst ts => Q (enumT ts) c1 | .tup ts => Q (enumT ts) c1 | _ => False) := id rfl
theorem wLC_d {f : WI} {vs : List Nat} {g : WG} {t : WT} {e : WE} : wLC f vs g t e τ c Q = (f τ c fun ts c1 => wlc g t e (wipeT τ vs) ts [] c1 Q) := id rfl
theorem wgSet_d {i : Nat} {t : T} {Q : TFr → Prop} : wgSet i t τ Q = Q (τ.set i (some t)) := id rfl
theorem wgNil_d {Q : TFr → Prop} : wgNil [] τ Q = Q τ := id rfl
theorem wgCons_d {g : WG} {r : WGs} {t : T} {ts : List T} {Q : TFr → Prop} : wgCons g r (t :: ts) τ Q = (g t τ fun τ1 => r ts τ1 Q) := id rfl
theorem wgSeq_t {n : Nat} {g : WGs} {ts : List T} {Q : TFr → Prop} : wgSeq n g (.tup ts) τ Q = (ts.length = n ∧ g ts τ Q) := id rfl
theorem wgSeq_l {n : Nat} {g : WGs} {ts : List T} {Q : TFr → Prop} : wgSeq n g (.lst ts) τ Q = (ts.length = n ∧ g ts τ Q) := id rfl
theorem wsNext_d : wsNext τ c R = R (.next τ) c := id rfl
theorem wsBrk_d : wsBrk τ c R = R (.brk τ) c := id rfl
theorem wsCont_d : wsCont τ c R = R (.cont τ) c := id rfl
theorem wsSeq_d {f g : WS} : wsSeq f g τ c R = (f τ c fun fl c1 => match fl with | .next τ1 => g τ1 c1 R | fl => R fl c1) := id rfl
theorem wsIf_d {t : WT} {f g : WS} : wsIf t f g τ c R = (t τ c fun b c1 => if b = true then f τ c1 R else g τ c1 R) := id rfl
theorem wsExpr_d {f : WE} : wsExpr f τ c R = (f τ c fun _ c1 => R (.next τ) c1) := id rfl
theorem wsRet_d {f : WE} : wsRet f τ c R = (f τ c fun x c1 => R (.ret x) c1) := id rfl
theorem wsSet_d {i : Nat} {f : WE} : wsSet i f τ c R = (f τ c fun x c1 => R (.next (τ.set i (some x))) c1) := id rfl
theorem wsPar_d {i j : Nat} {f g : WE} : wsPar i j f g τ c R = (f τ c fun x c1 => g τ c1 fun y c2 => R (.next ((τ.set i (some x)).set j (some y))) c2) := id rfl
theorem wsAsg_d {f : WE} {g : WG} : wsAsg f g τ c R = (f τ c fun x c1 => g x τ fun τ1 => R (.next τ1) c1) := id rfl
theorem wsAppend_d {i : Nat} {f : WE} : wsAppend i f τ c R = (f τ c fun x c1 => match τ[i]? with | some (some (.lst xs)) => xs.length < sizeLine ∧ R (.next (τ.set i (some (.lst (xs ++ [x]))))) c1 | _ => False) := id rfl
theorem wsExtend_d {i : Nat} {f : WE} : wsExtend i f τ c R = (f τ c fun x c1 => match τ[i]?, x with | some (some (.lst xs)), .lst ys => xs.length + ys.length ≤ sizeLine ∧ R (.next (τ.set i (some (.lst (xs ++ ys))))) c1 | _, _ => False) := id rfl
theorem wsReverse_d {i : Nat} : wsReverse i τ c R = (match τ[i]? with | some (some (.lst xs)) => R (.next (τ.set i (some (.lst xs.reverse)))) c | _ => False) := id rfl
theorem wsFor_d {f : WI} {γ : WG} {β : WS} : wsFor f γ β τ c R = (f τ c fun ts c1 => wfor γ β ts τ c1 R) := id rfl
theorem wsWhile_d {m : TFr → Nat} {θ : WT} {β : WS} : wsWhile m θ β τ c R = wwhile θ β (m τ) τ c R := id rfl
theorem wFn_d {np n : Nat} {β : WS} {ts : List T} : wFn np n β ts c Q = (ts.length = np ∧ β (startT n ts) c fun fl c1 => match fl with
  | .ret t => Q t c1
  | .next _ => Q .non c1
  | _ => False) := id rfl
theorem wFnN_d {np n : Nat} {β : WS} {ts : List T} : wFnN np n β ts c Q = (ts.length = np ∧ β (startT n ts) c fun fl c1 => match fl with
  | .ret t => Q t c1
  | _ => False) := id rfl
theorem wDraw_d {n : Int} : wDraw [.pen, .int n] c Q = ((0 < n ∧ n < 10000000000000 ∧ c < 900000) ∧ ∀ r : Int, 0 ≤ r → r < n → Q (.int r) (c + 1)) := id rfl
end
section
variable {P : T → Prop} {i j : Int} {xs ys : List T}
theorem vSub_d : vSub (.int i) (.int j) P = P (.int (i - j)) := by show (True ∧ _) = _; simp
theorem vLt_d : vLt (.int i) (.int j) P = P (.bl (decide (i < j))) := by show (True ∧ _) = _; simp
theorem vLe_d : vLe (.int i) (.int j) P = P (.bl (decide (i ≤ j))) := by show (True ∧ _) = _; simp
theorem vGt_d : vGt (.int i) (.int j) P = P (.bl (decide (j < i))) := by show (True ∧ _) = _; simp
theorem vGe_d : vGe (.int i) (.int j) P = P (.bl (decide (j ≤ i))) := by show (True ∧ _) = _; simp
theorem vMax2_d : vMax2 (.int i) (.int j) P = P (.int (if j > i then j else i)) := by show (True ∧ _) = _; simp
theorem vMin2_d : vMin2 (.int i) (.int j) P = P (.int (if j < i then j else i)) := by show (True ∧ _) = _; simp
theorem vMul_t : vMulA (.tup xs) (.int j) P = ((xs ≠ [] ∧ 1 ≤ j ∧ j < 1000000 ∧ xs.length * j.toNat ≤ sizeLine) ∧ P (.tup (List.replicate j.toNat xs).flatten)) := id rfl
theorem vMul_l : vMulA (.lst xs) (.int j) P = ((0 ≤ j ∧ j < 1000000 ∧ xs.length * j.toNat ≤ sizeLine) ∧ P (.lst (List.replicate j.toNat xs).flatten)) := id rfl
theorem vAdd_d : vAdd (.int i) (.int j) P = P (.int (i + j)) := id rfl
theorem vAdd_t : vAdd (.tup xs) (.tup ys) P = (xs.length + ys.length ≤ sizeLine ∧ P (.tup (xs ++ ys))) := id rfl
theorem vAdd_l : vAdd (.lst xs) (.lst ys) P = (xs.length + ys.length ≤ sizeLine ∧ P (.lst (xs ++ ys))) := id rfl
theorem vCat_d : vCat (.lst xs) (.lst ys) P = (xs.length + ys.length ≤ sizeLine ∧ P (.lst (xs ++ ys))) := id rfl
theorem CMulF.l (h1 : -18446744073709551616 < i) (h2 : i < 18446744073709551616) : CMulF i j := .inl (.inl ⟨h1, h2⟩)
theorem CMulF.r (h1 : -18446744073709551616 < j) (h2 : j < 18446744073709551616) : CMulF i j := .inl (.inr ⟨h1, h2⟩)
theorem CMulF.f (h1 : Few i) (h2 : Few j) : CMulF i j := .inr ⟨h1, h2⟩
theorem vMod_p (h1 : 0 < j) : vMod (.int i) (.int j) P = P (.int (i % j)) := by
  show (j ≠ 0 ∧ P (.int (i.fmod j))) = _
  rw [Int.fmod_eq_emod_of_nonneg _ (by omega)]
  simp [show j ≠ 0 by omega]
theorem vPow_s (h0 : 0 ≤ j) (h1 : j ≤ 1000000) (h2 : i.natAbs < 18446744073709551616) : vPow (.int i) (.int j) P = P (.int (i ^ j.toNat)) := by
  show (CPow i j ∧ P (.int (i ^ j.toNat))) = _
  simp [show CPow i j from ⟨h0, h1, h2⟩]
theorem vEq_i : vEq (.int i) (.int j) P = P (.bl (i == j)) := by
  show (T.okq _ ∧ T.okq _ ∧ P (.bl (PyData.eqv (.int i) (.int j)))) = _
  have k : ∀ i, T.okq (.int i) := fun i => ⟨rfl, Nat.zero_le _⟩
  simp [k, PyData.eqv]
theorem vNe_i : vNe (.int i) (.int j) P = P (.bl (!(i == j))) := by
  show (T.okq _ ∧ T.okq _ ∧ P (.bl (!PyData.eqv (.int i) (.int j)))) = _
  have k : ∀ i, T.okq (.int i) := fun i => ⟨rfl, Nat.zero_le _⟩
  simp [k, PyData.eqv]
theorem vEq_s {a b : Str} : vEq (.str a) (.str b) P = P (.bl (decide (a = b))) := id rfl
theorem vNe_s {a b : Str} : vNe (.str a) (.str b) P = P (.bl (!decide (a = b))) := id rfl
theorem vEq_o {x y : T} (hx : x.okq) (hy : y.okq) (h : (∀ a b, x = .str a → y = .str b → False)) : vEq x y P = P (.bl (PyData.eqv x.pd y.pd)) := by
  unfold vEq
  split
  · exact (h _ _ rfl rfl).elim
  · simp [hx, hy]
theorem vNe_o {x y : T} (hx : x.okq) (hy : y.okq) (h : (∀ a b, x = .str a → y = .str b → False)) : vNe x y P = P (.bl (!PyData.eqv x.pd y.pd)) := by
  unfold vNe
  split
  · exact (h _ _ rfl rfl).elim
  · simp [hx, hy]
theorem vIx_t : vIx (.tup xs) (.int i) P = tAt xs i P := id rfl
theorem vIx_l : vIx (.lst xs) (.int i) P = tAt xs i P := id rfl
theorem tAt_n {t : T} (h0 : 0 ≤ i) (e : xs[i.toNat]? = some t) : tAt xs i P = P t := by
  have hl : i.toNat < xs.length := (List.getElem?_eq_some_iff.mp e).1
  have : atI xs i = some t := by
    unfold atI ixN
    rw [if_pos h0, if_pos (by omega)]
    exact e
  unfold tAt
  rw [this]
theorem tAt_0 {t : T} : tAt (t :: xs) 0 P = P t := tAt_n (by decide) rfl
theorem tAt_1 {t t1 : T} : tAt (t :: t1 :: xs) 1 P = P t1 := tAt_n (by decide) rfl
theorem tAt_2 {t t1 t2 : T} : tAt (t :: t1 :: t2 :: xs) 2 P = P t2 := tAt_n (by decide) rfl
theorem vAbs_d : vAbs (.int i) P = P (.int (if i < 0 then -i else i)) := id rfl
theorem vLen_t : vLen (.tup xs) P = P (.int xs.length) := id rfl
theorem vLen_l : vLen (.lst xs) P = P (.int xs.length) := id rfl
theorem vTuple_l : vTuple (.lst xs) P = P (.tup xs) := id rfl
theorem vTuple_t : vTuple (.tup xs) P = P (.tup xs) := id rfl
theorem vList_l : vList (.lst xs) P = P (.lst xs) := id rfl
theorem vList_t : vList (.tup xs) P = P (.lst xs) := id rfl
theorem vInt_b {b : Bool} : vInt (.bl b) P = P (.int (if b then 1 else 0)) := id rfl
theorem vInt_i : vInt (.int i) P = P (.int i) := id rfl
theorem vRepr_d {x : T} : vRepr x P = (x.okr ∧ P (.str x.pd.shown)) := id rfl
theorem vRepr_o {x : T} (h : x.okr) : vRepr x P = P (.str x.pd.shown) := by rw [vRepr_d]; simp [h]
theorem vNotB_d {a b : Bool} : vNotB (.bl a) (.bl b) P = P (.bl (!decide (a = b))) := id rfl
theorem vIsN_d {x y : T} : vIsN x y P = P (.bl x.isN) := id rfl
theorem vNotN_d {x y : T} : vNotN x y P = P (.bl (!x.isN)) := id rfl
end
theorem wfor_cons {γ : WG} {β : WS} {x : T} {xs : List T} {τ : TFr} {c : Nat} {R : QS} : wfor γ β (x :: xs) τ c R = (γ x τ fun τ1 => β τ1 c fun fl c1 => match fl with
    | .next τ2 => wfor γ β xs τ2 c1 R
    | .cont τ2 => wfor γ β xs τ2 c1 R
    | .brk τ2 => R (.next τ2) c1
    | .ret t => R (.ret t) c1) := id rfl
theorem wfor_inv {γ : WG} {β : WS} {R : QS} {all : List T} (Inv : Nat → TFr → Nat → Prop)
    (hs : ∀ (i : Nat) (x : T) (τ : TFr) (c : Nat) (K : QS), all[i]? = some x → Inv i τ c → (∀ τ2 c1, Inv (i + 1) τ2 c1 → K (.next τ2) c1) → (∀ τ2 c1, Inv (i + 1) τ2 c1 → K (.cont τ2) c1) → (∀ t c1, R (.ret t) c1 → K (.ret t) c1) → (∀ τ2 c1, R (.next τ2) c1 → K (.brk τ2) c1) → γ x τ fun τ1 => β τ1 c K)
    (hq : ∀ τ c, Inv all.length τ c → R (.next τ) c) {τ : TFr} {c : Nat} (h0 : Inv 0 τ c) : wfor γ β all τ c R := by
  have key : ∀ (xs : List T) (i : Nat) (τ : TFr) (c : Nat), all.drop i = xs → i ≤ all.length → Inv i τ c → wfor γ β xs τ c R := by
    intro xs
    induction xs with
    | nil =>
      intro i τ c e l I
      have : i = all.length := by
        have := congrArg List.length e
        simp at this; omega
      subst this
      exact hq τ c I
    | cons x xs ih =>
      intro i τ c e l I
      have hi : i < all.length := by
        have := congrArg List.length e
        simp at this; omega
      have hx : all[i]? = some x := by
        rw [List.drop_eq_getElem_cons hi] at e
        cases e
        exact List.getElem?_eq_getElem hi
      have e' : all.drop (i + 1) = xs := by
        rw [List.drop_eq_getElem_cons hi] at e
        cases e; rfl
      rw [wfor_cons]
      exact hs i x τ c _ hx I (fun τ2 c1 I2 => ih (i + 1) τ2 c1 e' (by omega) I2) (fun τ2 c1 I2 => ih (i + 1) τ2 c1 e' (by omega) I2) (fun t c1 h => h) (fun τ2 c1 h => h)
  exact key all 0 τ c rfl (Nat.zero_le _) h0
theorem wlc_nil {g : WG} {t : WT} {e : WE} {τ0 : TFr} {acc : List T} {c : Nat} {Q : QT} : wlc g t e τ0 [] acc c Q = Q (.lst acc) c := id rfl
theorem wlc_cons {g : WG} {t : WT} {e : WE} {τ0 : TFr} {x : T} {xs acc : List T} {c : Nat} {Q : QT} : wlc g t e τ0 (x :: xs) acc c Q =
    (g x τ0 fun τ1 => t τ1 c fun b c1 => if b = true then e τ1 c1 fun y c2 => acc.length < sizeLine ∧ wlc g t e τ0 xs (acc ++ [y]) c2 Q else wlc g t e τ0 xs acc c1 Q) := id rfl
theorem wlc_inv {g : WG} {t : WT} {e : WE} {τ0 : TFr} {all : List T} {Q : QT} (Inv : Nat → List T → Nat → Prop) (hl : all.length ≤ sizeLine)
    (hs : ∀ (i : Nat) (x : T) (acc : List T) (c : Nat) (K : T → Nat → Prop) (K0 : Nat → Prop), all[i]? = some x → Inv i acc c → (∀ y c1, Inv (i + 1) (acc ++ [y]) c1 → K y c1) → (∀ c1, Inv (i + 1) acc c1 → K0 c1) → g x τ0 fun τ1 => t τ1 c fun b c1 => if b = true then e τ1 c1 K else K0 c1)
    (hq : ∀ acc c, Inv all.length acc c → Q (.lst acc) c) {c : Nat} (h0 : Inv 0 [] c) : wlc g t e τ0 all [] c Q := by
  have key : ∀ (xs : List T) (i : Nat) (acc : List T) (c : Nat), all.drop i = xs → i ≤ all.length → acc.length ≤ i → Inv i acc c → wlc g t e τ0 xs acc c Q := by
    intro xs
    induction xs with
    | nil =>
      intro i acc c e' l la I
      have : i = all.length := by
        have := congrArg List.length e'
        simp at this; omega
      subst this
      exact hq acc c I
    | cons x xs ih =>
      intro i acc c e' l la I
      have hi : i < all.length := by
        have := congrArg List.length e'
        simp at this; omega
      have hx : all[i]? = some x := by
        rw [List.drop_eq_getElem_cons hi] at e'
        cases e'
        exact List.getElem?_eq_getElem hi
      have e2 : all.drop (i + 1) = xs := by
        rw [List.drop_eq_getElem_cons hi] at e'
        cases e'; rfl
      rw [wlc_cons]
      exact hs i x acc c _ _ hx I (fun y c1 I2 => ⟨by omega, ih (i + 1) (acc ++ [y]) c1 e2 (by omega) (by simp; omega) I2⟩) (fun c1 I2 => ih (i + 1) acc c1 e2 (by omega) (by omega) I2)
  exact key all 0 [] c rfl (Nat.zero_le _) (Nat.le_refl _) h0
theorem wlc_pure {g : WG} {t : WT} {e : WE} {τ0 : TFr} {Q : QT} {c : Nat} (tb : T → Bool) (el : T → T) : ∀ (xs acc : List T), (∀ x ∈ xs, ∀ (K : T → Nat → Prop) (K0 : Nat → Prop), (g x τ0 fun τ1 => t τ1 c fun b c1 => if b = true then e τ1 c1 K else K0 c1) = if tb x = true then K (el x) c else K0 c) →
    acc.length + xs.length ≤ sizeLine → wlc g t e τ0 xs acc c Q = Q (.lst (acc ++ (xs.filter tb).map el)) c
  | [], acc, _, _ => by rw [wlc_nil]; simp
  | x :: xs, acc, h, hl => by
    simp only [List.length_cons] at hl
    rw [wlc_cons, h x (by simp)]
    cases q : tb x with
    | true =>
      rw [if_pos rfl, wlc_pure tb el xs (acc ++ [el x]) (fun y hy => h y (List.mem_cons_of_mem _ hy)) (by simp; omega), List.filter_cons_of_pos q]
      simp [show acc.length < sizeLine by omega]
    | false =>
      rw [if_neg Bool.false_ne_true, wlc_pure tb el xs acc (fun y hy => h y (List.mem_cons_of_mem _ hy)) (by omega), List.filter_cons_of_neg (by simp [q])]
theorem wwhile_s {θ : WT} {β : WS} {n : Nat} {τ : TFr} {c : Nat} {R : QS} : wwhile θ β (n + 1) τ c R = (θ τ c fun b c1 => if b = true then β τ c1 fun fl c2 => (match fl with
    | .next τ2 => wwhile θ β n τ2 c2 R
    | .cont τ2 => wwhile θ β n τ2 c2 R
    | .brk τ2 => R (.next τ2) c2
    | .ret t => R (.ret t) c2) else R (.next τ) c1) := id rfl
theorem euclidT {θ : WT} {β : WS} (mk : Int → Int → TFr) (ht : ∀ (n m : Int) (c : Nat) (K : Bool → Nat → Prop), 0 ≤ n → 0 ≤ m → θ (mk n m) c K = K (decide (m ≠ 0)) c) (hb : ∀ (n m : Int) (c : Nat) (K : QS), 0 ≤ n → 0 < m → β (mk n m) c K = K (.next (mk m (n % m))) c) :
    ∀ (f : Nat) (n m : Int) (c : Nat) (R : QS), 0 ≤ n → 0 ≤ m → m.natAbs < f → wwhile θ β f (mk n m) c R = R (.next (mk (Int.gcd n m) 0)) c
  | 0, n, m, c, R, _, _, hf => by omega
  | f + 1, n, m, c, R, hn, hm, hf => by
    rw [wwhile_s, ht n m c _ hn hm]
    by_cases h0 : m = 0
    · subst h0
      rw [decide_eq_false (by simp), if_neg Bool.false_ne_true]
      simp only [Int.gcd_zero_right]
      rw [Int.natAbs_of_nonneg hn]
    · have hp : 0 < m := by omega
      rw [decide_eq_true h0, if_pos rfl, hb n m c _ hn hp]
      have h1 := Int.emod_nonneg n h0
      have h2 := Int.emod_lt_of_pos n hp
      show wwhile θ β f (mk m (n % m)) c R = _
      rw [euclidT mk ht hb f m (n % m) c R hm h1 (by omega), gcd_step n m hn hp]
theorem rangeT_get {n i : Nat} {x : T} (h : (rangeT 0 n)[i]? = some x) : i < n ∧ x = .int i := by
  unfold rangeT at h
  rw [List.getElem?_map] at h
  cases q : (List.range n)[i]? with
  | none => rw [q] at h; cases h
  | some j =>
    rw [q] at h
    have hi : i < n := by have := (List.getElem?_eq_some_iff.mp q).1; simpa using this
    simp [hi] at q
    subst q
    simp at h
    exact ⟨hi, h.symm⟩
theorem rangeT_len {n : Nat} {lo : Int} : (rangeT lo n).length = n := by simp [rangeT]
def shT (q : Rat) : T := .tup [.int q.num, .int q.den]
theorem vIx_sh0 {q : Rat} {P : T → Prop} : vIx (shT q) (.int 0) P = P (.int q.num) := by unfold shT; rw [vIx_t, tAt_0]
theorem vIx_sh1 {q : Rat} {P : T → Prop} : vIx (shT q) (.int 1) P = P (.int q.den) := by unfold shT; rw [vIx_t, tAt_1]
theorem okq_sh (q : Rat) : (shT q).okq := ⟨rfl, by simp [shT, T.dep, T.deps]⟩
theorem pd_sh (q : Rat) : (shT q).pd = shP q := rfl
theorem vEq_sh {p q : Rat} {P : T → Prop} : vEq (shT p) (shT q) P = P (.bl (decide (p = q))) := by
  rw [vEq_o (okq_sh p) (okq_sh q) (fun a b e => by cases e), pd_sh, pd_sh, eqv_sh]
theorem vNe_sh {p q : Rat} {P : T → Prop} : vNe (shT p) (shT q) P = P (.bl (!decide (p = q))) := by
  rw [vNe_o (okq_sh p) (okq_sh q) (fun a b e => by cases e), pd_sh, pd_sh, eqv_sh]
structure Sm (m w : Nat) (t : T) : Prop where
  rb : t.repb = true
  dp : t.dep ≤ m
  ty : tinyZ t.pd = true
  wt : t.pd.weight ≤ w
theorem Sm.mono {m w m' w' : Nat} {t : T} (s : Sm m w t) (hm : m ≤ m') (hw : w ≤ w') : Sm m' w' t := ⟨s.rb, Nat.le_trans s.dp hm, s.ty, Nat.le_trans s.wt hw⟩
theorem Sm.okr {m w : Nat} {t : T} (s : Sm m w t) (hm : m ≤ 39) (hw : w ≤ 8000) : t.okr := by
  refine ⟨s.rb, Nat.le_trans s.dp hm, tinyZ_showable _ s.ty, ?_⟩
  have := PyData.shown_le 1922 (by decide) _ (tinyZ_short _ s.ty)
  have := s.wt
  rw [sizeLine_eq]
  omega
theorem Sm.non : Sm 0 0 .non := ⟨rfl, Nat.le_refl _, rfl, by simp [T.pd, PyData.weight]⟩
theorem Sm.bl (b : Bool) : Sm 0 0 (.bl b) := ⟨rfl, Nat.le_refl _, rfl, by simp [T.pd, PyData.weight]⟩
theorem Sm.int {i : Int} {k : Nat} (hi : i.natAbs < 2 ^ k) (hk : 0 < k) (hk2 : k ≤ 1900) : Sm 0 k (.int i) :=
  ⟨rfl, Nat.le_refl _, by have := log2_of hi hk; simp only [T.pd, tinyZ, decide_eq_true_eq]; omega, weight_int hi hk⟩
theorem Sm.all {m w : Nat} : ∀ {xs : List T}, (∀ x ∈ xs, Sm m w x) → T.repbs xs = true ∧ T.deps xs ≤ m ∧ tinyZs (T.pds xs) = true ∧ PyData.weightAll (T.pds xs) ≤ xs.length * (w + 1)
  | [], _ => ⟨rfl, Nat.zero_le _, rfl, by simp [T.pds, PyData.weightAll]⟩
  | x :: xs, h => by
    obtain ⟨a, b, c, d⟩ := h x (by simp)
    obtain ⟨a', b', c', d'⟩ := Sm.all (xs := xs) fun y hy => h y (List.mem_cons_of_mem _ hy)
    refine ⟨by simp only [T.repbs, a, a', Bool.and_self], by simp only [T.deps]; omega, by simp only [T.pds, tinyZs, c, c', Bool.and_self], ?_⟩
    simp only [T.pds, PyData.weightAll, List.length_cons, Nat.add_mul]
    omega
theorem Sm.tup {m w n : Nat} {xs : List T} (h : ∀ x ∈ xs, Sm m w x) (hn : xs.length ≤ n) : Sm (m + 1) (n * (w + 1)) (.tup xs) := by
  obtain ⟨a, b, c, d⟩ := Sm.all h
  have := Nat.mul_le_mul_right (w + 1) hn
  exact ⟨by simpa only [T.repb] using a, by simp only [T.dep]; omega, by simpa only [T.pd, tinyZ] using c, by simp only [T.pd, PyData.weight]; omega⟩
theorem Sm.lst {m w n : Nat} {xs : List T} (h : ∀ x ∈ xs, Sm m w x) (hn : xs.length ≤ n) : Sm (m + 1) (n * (w + 1)) (.lst xs) := by
  obtain ⟨a, b, c, d⟩ := Sm.all h
  have := Nat.mul_le_mul_right (w + 1) hn
  exact ⟨by simpa only [T.repb] using a, by simp only [T.dep]; omega, by simpa only [T.pd, tinyZ] using c, by simp only [T.pd, PyData.weight]; omega⟩
theorem Sm.sh {k : Nat} {q : Rat} (s : Sz k q) (hk : 0 < k) (hk2 : k ≤ 1900) : Sm 1 (2 * (k + 1)) (shT q) := by
  refine Sm.tup (m := 0) (w := k) (n := 2) (fun x hx => ?_) (by simp)
  simp only [List.mem_cons, List.not_mem_nil, or_false] at hx
  rcases hx with rfl | rfl
  · exact Sm.int s.num hk hk2
  · exact Sm.int (by simpa using s.den) hk hk2
end EV
set_option Elab.async false
set_option linter.all false
set_option autoImplicit false
set_option maxRecDepth 100000
namespace EV
open PySem PySem.Spec L2
structure Gap (k : Nat) (q : Rat) : Prop where
  sz : Sz k q
  lo : 0 ≤ q.num
  hi : 2 * q.num ≤ q.den
theorem Gap.mono {k l : Nat} {q : Rat} (a : Gap k q) (h : k ≤ l) : Gap l q := ⟨a.sz.mono h, a.lo, a.hi⟩
theorem Gap.zero : Gap 1 0 := ⟨Sz.zero, by decide, by decide⟩
theorem Gap.divInt {a b : Int} {k : Nat} (hb : 0 < b) (h0 : 0 ≤ a) (h1 : 2 * a ≤ b) (hz : b.natAbs < 2 ^ k) : Gap k (Rat.divInt a b) := by
  have hd : b ≠ 0 := by omega
  refine ⟨Sz.divInt hd (by omega) hz, ?_, ?_⟩
  · rw [div_num hd, if_neg (by omega)]
    exact Int.ediv_nonneg h0 (by omega)
  · rw [div_num hd, div_den hd, if_neg (by omega), if_neg (by omega)]
    have d1 : (Int.gcd a b : Int) ∣ a := Int.gcd_dvd_left _ _
    have d2 : (Int.gcd a b : Int) ∣ b := Int.gcd_dvd_right _ _
    have g : (0 : Int) < (Int.gcd a b : Int) := by have := gcd_pos' (a := a) hd; omega
    generalize (Int.gcd a b : Int) = G at *
    obtain ⟨x, rfl⟩ := d1
    obtain ⟨y, rfl⟩ := d2
    have g' : 0 < G := g
    rw [Int.mul_ediv_cancel_left _ (by omega), Int.mul_ediv_cancel_left _ (by omega)]
    have : G * (2 * x) ≤ G * y := by
      have : G * (2 * x) = 2 * (G * x) := by grind
      omega
    exact Int.le_of_mul_le_mul_left this g'
end EV
set_option Elab.async false
set_option linter.all false
set_option autoImplicit false
set_option maxRecDepth 100000
namespace EV
open PySem PySem.Spec L2
def penO (c : Nat) (a l : Int) : AO := .lst [.ref c, .int a, .int l]
structure Pen (h : AH) (p c : Nat) (cs : List Int) (a l : Int) : Prop where
  pen : h[p]? = some (penO c a l)
  cells : h[c]? = some (.lst (cs.map D.int))
  ne : c ≠ p
  a0 : 0 ≤ a
  l0 : 0 ≤ l
theorem Pen.set {h : AH} {p c : Nat} {cs : List Int} {a l a' l' : Int} (P : Pen h p c cs a l) (a0 : 0 ≤ a') (l0 : 0 ≤ l') : Pen (h.set p (penO c a' l')) p c cs a' l' := by
  have hpl : p < h.length := (List.getElem?_eq_some_iff.mp P.pen).1
  exact ⟨List.getElem?_set_self hpl, by rw [List.getElem?_set_ne (Ne.symm P.ne)]; exact P.cells, P.ne, a0, l0⟩
theorem Pen.app {h : AH} {p c : Nat} {cs : List Int} {a l : Int} (P : Pen h p c cs a l) (g : AH) : Pen (h ++ g) p c cs a l := by
  have hpl : p < h.length := (List.getElem?_eq_some_iff.mp P.pen).1
  have hcl : c < h.length := (List.getElem?_eq_some_iff.mp P.cells).1
  exact ⟨by rw [List.getElem?_append_left hpl]; exact P.pen, by rw [List.getElem?_append_left hcl]; exact P.cells, P.ne, P.a0, P.l0⟩
theorem Pen.pl {h : AH} {p c : Nat} {cs : List Int} {a l : Int} (P : Pen h p c cs a l) : p < h.length := (List.getElem?_eq_some_iff.mp P.pen).1
theorem Pen.cl {h : AH} {p c : Nat} {cs : List Int} {a l : Int} (P : Pen h p c cs a l) : c < h.length := (List.getElem?_eq_some_iff.mp P.cells).1
theorem Pen.cut {h : AH} {p c : Nat} {cs : List Int} {a l : Int} (P : Pen h p c cs a l) (a' l' : Int) (g : AH) (v : D) (hv : below h.length v = true) : EV.cut h (h.set p (penO c a' l') ++ g) v = h.set p (penO c a' l') := by
  refine cut_app (by simp) hv fun i hi => ?_
  by_cases q : p = i
  · subst q
    exact .inr ⟨_, List.getElem?_set_self P.pl, by simp [penO, belowO, EV.belows, EV.below, P.cl]⟩
  · rw [List.getElem?_set_ne q]; exact .inl rfl
theorem pen_ix {h : AH} {p c : Nat} {a l : Int} (e : h[p]? = some (penO c a l)) : oIx (.ref p) (.int 0) h = .ok (.ref c) h ∧ oIx (.ref p) (.int 1) h = .ok (.int a) h ∧ oIx (.ref p) (.int 2) h = .ok (.int l) h :=
  ⟨by rw [oIx_ref e]; exact seqAt_n (i := 0) (by decide) rfl, by rw [oIx_ref e]; exact seqAt_n (i := 1) (by decide) rfl, by rw [oIx_ref e]; exact seqAt_n (i := 2) (by decide) rfl⟩
theorem pen_st {h : AH} {p c : Nat} {a l : Int} (e : h[p]? = some (penO c a l)) (x : Int) : setD (.ref p) (.int 1) (.int x) h = .ok () (h.set p (penO c x l)) ∧ setD (.ref p) (.int 2) (.int x) h = .ok () (h.set p (penO c a x)) := by
  unfold penO at e
  exact ⟨by simp only [setD, e]; rfl, by simp only [setD, e]; rfl⟩
def DrawOk (F : BF) : Prop := ∀ (h : AH) (p c : Nat) (cs : List Int) (a l n : Int), Pen h p c cs a l → 0 < n → n < 10000000000000 → a < 1000000 →
  ∃ r a' l', F [.ref p, .int n] h = .ok (.int r) (h.set p (penO c a' l')) ∧ 0 ≤ r ∧ r < n ∧ 0 ≤ a' ∧ a' ≤ a + 1 ∧ 0 ≤ l'
def LP : PenSys where
  Pn p q h c := ∃ cs a l, Pen h p q cs a l ∧ a ≤ (c : Int)
  loc := fun ⟨cs, a, l, P, _⟩ => ⟨P.pl, P.cl, Ne.symm P.ne⟩
  keep := fun ⟨cs, a, l, P, k⟩ e1 e2 => ⟨cs, a, l, ⟨by rw [e1]; exact P.pen, by rw [e2]; exact P.cells, P.ne, P.a0, P.l0⟩, k⟩
theorem jd_of {F : BF} (d : DrawOk F) : JF LP F wDraw := fun p q B h c ds ts Q G r w => by
  unfold wDraw at w
  split at w
  · rename_i n
    obtain ⟨⟨n0, n1, hc⟩, w⟩ := w
    cases r with
    | cons r1 r2 =>
      cases r2 with
      | cons r2 r3 =>
        cases r3
        cases r2
        cases r1 with
        | pen hl =>
          obtain ⟨cs, a, l, P, k⟩ := G.pn
          obtain ⟨x, a', l', e, x0, x1, a0, a1, l0⟩ := d h p q cs a l n P n0 n1 (by omega)
          refine ⟨.int x, _, .int x, c + 1, e, ⟨by simp, fun m l' ne => List.getElem?_set_ne (Ne.symm ne)⟩, ⟨⟨cs, a', l', P.set a0 l0, by omega⟩, G.bp, G.bq, fun m b => by rw [List.length_set]; exact G.al m b, G.cl.set ?_⟩, .int _, w x x0 x1⟩
          simp [penO, belowO, EV.belows, EV.below, P.cl]
  · exact w.elim
theorem top_of {S : PenSys} {σ1 : Fr} {h1 : AH} {τ1 : TFr} {p q : Nat} {B : Nat → Prop} {f g : SF} {φ : WS} {σ0 : Fr} {h0 : AH} (e1 : f σ0 h0 = .ok (.next σ1) h1) (G : Good S p q B h1 0) (r : RF p B h1.length [] h1 σ1 τ1) (j : JS S false [] [] [] g φ)
    (w : φ τ1 0 fun fl _ => fl = .ret (.bl true)) : ∃ h', sSeq f g σ0 h0 = .ok (.ret (.bl true)) h' := by
  obtain ⟨pl, ql, _⟩ := S.loc G.pn
  obtain ⟨fl, h', tfl, c', B', e, st, rf, k⟩ := j p q h1.length B h1 0 σ1 τ1 _ G pl ql (Nat.le_refl _) r w
  subst k
  cases rf with
  | ret rf =>
    cases rf with
    | val rv => cases rv; exact ⟨h', by rw [seq_n e1, e]⟩
    | own _ o => cases o
theorem RF.pen0 {p L : Nat} {B : Nat → Prop} {h : AH} {σ : Fr} {i : Nat} (hl : p < h.length) (hp : σ[i]? = some (some (.ref p))) : RF p B L [] h σ ((List.replicate σ.length none).set i (some .pen)) := by
  refine ⟨by simp, fun j t _ e => ?_, fun j t hj => (List.not_mem_nil hj).elim, fun j k m t u hj => (List.not_mem_nil hj).elim⟩
  by_cases z : i = j
  · subst z
    have : i < σ.length := (List.getElem?_eq_some_iff.mp hp).1
    rw [List.getElem?_set_self (by simpa using this)] at e
    cases e
    exact ⟨_, hp, .pen hl⟩
  · rw [List.getElem?_set_ne z, List.getElem?_replicate] at e
    split at e <;> cases e
end EV
set_option Elab.async false
set_option linter.all false
set_option autoImplicit false
set_option maxRecDepth 100000
namespace EV
open PySem PySem.Spec L2
def hQ : Rat := Rat.divInt 1 2
theorem Sz.h : Sz 2 hQ := ⟨by decide, by decide⟩
theorem Sz.two : Sz 2 2 := ⟨by decide, by decide⟩
theorem Gap.h : Gap 2 hQ := ⟨Sz.h, by decide, by decide⟩
end EV
set_option Elab.async false
set_option linter.all false
set_option autoImplicit false
set_option maxRecDepth 100000
namespace EV
open PySem PySem.Spec L2
theorem wlc_mapA {g : WG} {t : WT} {e : WE} {τ0 : TFr} {Q : QT} {c : Nat} {ι : Type} (f : ι → T) (el : ι → T) : ∀ (ys : List ι) (acc : List T), (∀ y ∈ ys, ∀ (K : T → Nat → Prop) (K0 : Nat → Prop), (g (f y) τ0 fun τ1 => t τ1 c fun b c1 => if b = true then e τ1 c1 K else K0 c1) = K (el y) c) →
    acc.length + ys.length ≤ sizeLine → wlc g t e τ0 (ys.map f) acc c Q = Q (.lst (acc ++ ys.map el)) c
  | [], acc, _, _ => by rw [List.map_nil, wlc_nil]; simp
  | y :: ys, acc, h, hl => by
    simp only [List.length_cons] at hl
    rw [List.map_cons, wlc_cons, h y (by simp), wlc_mapA f el ys (acc ++ [el y]) (fun z hz => h z (List.mem_cons_of_mem _ hz)) (by simp; omega)]
    simp [show acc.length < sizeLine by omega]
theorem wlc_map {g : WG} {t : WT} {e : WE} {τ0 : TFr} {Q : QT} {c : Nat} {ι : Type} (f : ι → T) (el : ι → T) {ys : List ι} (h : ∀ y ∈ ys, ∀ (K : T → Nat → Prop) (K0 : Nat → Prop), (g (f y) τ0 fun τ1 => t τ1 c fun b c1 => if b = true then e τ1 c1 K else K0 c1) = K (el y) c)
    (hl : ys.length ≤ sizeLine) : wlc g t e τ0 (ys.map f) [] c Q = Q (.lst (ys.map el)) c := by
  rw [wlc_mapA f el ys [] h (by simpa using hl)]; rfl
def botStep (b : Int) (q : Rat) : Int := if b % (q.den : Int) ≠ 0 then b * ((q.den : Int) / (Int.gcd b q.den : Int)) else b
def botQ (qs : List Rat) : Int := qs.foldl botStep 1
structure Bot (k : Nat) (b : Int) : Prop where
  pos : 0 < b
  lt : b.natAbs < 2 ^ k
theorem den_div_pos {b : Int} {q : Rat} : 0 < (q.den : Int) / (Int.gcd b q.den : Int) := by
  have hd : (q.den : Int) ≠ 0 := by have := q.den_nz; omega
  have hg : (0 : Int) < (Int.gcd b q.den : Int) := by have := gcd_pos' (a := b) hd; omega
  exact Int.ediv_pos_of_pos_of_dvd (by have := q.den_nz; omega) (by omega) (Int.gcd_dvd_right _ _)
theorem Bot.step {k l : Nat} {b : Int} {q : Rat} (h : Bot k b) (s : Sz l q) : Bot (k + l) (botStep b q) := by
  unfold botStep
  split
  · refine ⟨Int.mul_pos h.pos den_div_pos, ?_⟩
    rw [Int.natAbs_mul]
    refine mul_lt_pow h.lt (Nat.lt_of_le_of_lt ?_ s.den)
    rw [Int.natAbs_ediv_of_dvd (Int.gcd_dvd_right _ _)]
    exact Nat.div_le_self _ _
  · exact ⟨h.pos, Nat.lt_of_lt_of_le h.lt (pow_le (by omega))⟩
theorem Bot.fold {l : Nat} : ∀ (qs : List Rat) {k : Nat} {b : Int}, Bot k b → (∀ q ∈ qs, Sz l q) → Bot (k + l * qs.length) (qs.foldl botStep b)
  | [], k, b, h, _ => by simpa using h
  | q :: qs, k, b, h, hq => by
    rw [List.foldl_cons]
    have := Bot.fold qs (h.step (hq q (by simp))) fun x hx => hq x (List.mem_cons_of_mem _ hx)
    have e : k + l + l * qs.length = k + l * (q :: qs).length := by simp only [List.length_cons, Nat.mul_add]; omega
    rw [e] at this
    exact this
theorem Bot.q {l : Nat} {qs : List Rat} (hq : ∀ q ∈ qs, Sz l q) : Bot (1 + l * qs.length) (botQ qs) := Bot.fold qs ⟨by decide, by decide⟩ hq
theorem sum_fold : ∀ (qs : List Rat) (z : Rat), qs.foldl (· + ·) z = z + sumQ qs
  | [], z => by unfold sumQ; rw [List.foldl_nil, List.foldl_nil, Rat.add_zero]
  | q :: qs, z => by
    unfold sumQ
    rw [List.foldl_cons, List.foldl_cons, sum_fold qs (z + q), sum_fold qs (0 + q), Rat.zero_add, Rat.add_assoc]
theorem sumQ_cons (q : Rat) (qs : List Rat) : sumQ (q :: qs) = q + sumQ qs := by
  conv => lhs; unfold sumQ
  rw [List.foldl_cons, sum_fold, Rat.zero_add]
theorem pick {L : List T} {P : T → Prop} (h : ∀ x ∈ L, P x) {r : Int} (h0 : 0 ≤ r) (h1 : r < L.length) : ∃ x, L[r.toNat]? = some x ∧ P x := by
  have hl : r.toNat < L.length := by omega
  exact ⟨L[r.toNat], List.getElem?_eq_getElem hl, h _ (List.getElem_mem hl)⟩
theorem pick_int {L : List T} {P : Int → Prop} (h : ∀ x ∈ L, ∃ i, x = T.int i ∧ P i) {r : Int} (h0 : 0 ≤ r) (h1 : r < L.length) : ∃ i, L[r.toNat]? = some (.int i) ∧ P i := by
  obtain ⟨x, e, i, rfl, hp⟩ := pick h h0 h1
  exact ⟨i, e, hp⟩
end EV
set_option Elab.async false
set_option linter.all false
set_option autoImplicit false
set_option maxRecDepth 100000
namespace EV
open PySem PySem.Spec L2
section
variable {τ : TFr} {c : Nat} {Q : QT} {R : QS} {M : QM}
end
end EV
set_option Elab.async false
set_option linter.all false
set_option autoImplicit false
set_option maxRecDepth 100000
namespace EV
open PySem PySem.Spec L2
abbrev CRow := List (Option Int)
def known (r : CRow) (o : List Nat) : List Int := o.filterMap fun i => r.getD i none
end EV
set_option Elab.async false
set_option linter.all false
set_option autoImplicit false
set_option maxRecDepth 100000
namespace EV
open PySem PySem.Spec L2
theorem wlc_gen {g : WG} {t : WT} {e : WE} {τ0 : TFr} {xs : List T} {Q : QT} {c : Nat} {ι : Type} (f : ι → T) (P : ι → Prop) (d : Nat) (hl : xs.length ≤ 100000)
    (hs : ∀ x ∈ xs, ∀ (c1 : Nat) (K : T → Nat → Prop) (K0 : Nat → Prop), c ≤ c1 → c1 ≤ c + d * xs.length → (∀ z c2, P z → c1 ≤ c2 → c2 ≤ c1 + d → K (f z) c2) → g x τ0 fun τ1 => t τ1 c1 fun b c2 => if b = true then e τ1 c2 K else K0 c2)
    (h : ∀ (zs : List ι) (c' : Nat), zs.length = xs.length → (∀ z ∈ zs, P z) → c ≤ c' → c' ≤ c + d * xs.length → Q (.lst (zs.map f)) c') :
    wlc g t e τ0 xs [] c Q := by
  have mono : ∀ i, i < xs.length → d * i + d ≤ d * xs.length := fun i hi => by
    have := Nat.mul_le_mul_left d (show i + 1 ≤ xs.length by omega)
    rwa [Nat.mul_add, Nat.mul_one] at this
  refine wlc_inv (fun i acc c' => i ≤ xs.length ∧ ∃ zs : List ι, acc = zs.map f ∧ zs.length = i ∧ (∀ z ∈ zs, P z) ∧ c ≤ c' ∧ c' ≤ c + d * i) (by rw [sizeLine_eq]; omega) ?_ ?_ ⟨Nat.zero_le _, [], rfl, rfl, by simp, by omega, by omega⟩
  · intro i x acc c1 K K0 hx ⟨hi', zs, e, hl, hq, h1, h2⟩ hK _
    have hi : i < xs.length := (List.getElem?_eq_some_iff.mp hx).1
    have := mono i hi
    refine hs x (List.mem_of_getElem? hx) c1 K K0 h1 (by omega) fun z c2 pz h3 h4 => hK _ _ ⟨hi, zs ++ [z], by rw [e]; simp, by simp [hl], fun y hy => ?_, by omega, by rw [Nat.mul_add, Nat.mul_one]; omega⟩
    rcases List.mem_append.mp hy with hy | hy
    · exact hq y hy
    · simp at hy; subst hy; exact pz
  · intro acc c1 ⟨_, zs, e, hl, hq, h1, h2⟩
    rw [e]
    exact h zs c1 hl hq h1 h2
theorem wsSeq_p {f g : WS} {τ : TFr} {c : Nat} {R : QS} (P : TFr → Nat → Prop) (hf : ∀ K : QS, (∀ τ1 c1, P τ1 c1 → K (.next τ1) c1) → (∀ t c1, R (.ret t) c1 → K (.ret t) c1) → f τ c K) (hg : ∀ τ1 c1, P τ1 c1 → g τ1 c1 R) : wsSeq f g τ c R := by
  rw [wsSeq_d]
  exact hf _ (fun τ1 c1 p => hg τ1 c1 p) (fun t c1 r => r)
theorem tAt_pick {L : List T} {r : Int} {P : T → Prop} (Z : T → Prop) (hL : ∀ x ∈ L, Z x) (h0 : 0 ≤ r) (h1 : r < L.length) (k : ∀ x, Z x → P x) : tAt L r P := by
  obtain ⟨x, e, z⟩ := pick hL h0 h1
  rw [tAt_n h0 e]
  exact k x z
theorem tAt_int {L : List T} {r : Int} {P : T → Prop} (Z : Int → Prop) (hL : ∀ x ∈ L, ∃ i, x = T.int i ∧ Z i) (h0 : 0 ≤ r) (h1 : r < L.length) (k : ∀ i, Z i → P (.int i)) : tAt L r P := by
  obtain ⟨x, e, z⟩ := pick_int hL h0 h1
  rw [tAt_n h0 e]
  exact k x z
end EV
set_option Elab.async false
set_option linter.all false
set_option autoImplicit false
set_option maxRecDepth 100000
namespace EV
open PySem PySem.Spec L2
def T.nopen : T → Bool | .pen => false | _ => true
def T.isInt : T → Bool | .int _ => true | _ => false
def T.tupB (a b : Int) : T → Bool | .tup xs => decide (a ≤ (xs.length : Int)) && decide ((xs.length : Int) ≤ b) | _ => false
def T.belowB (n : Int) : T → Bool | .int i => decide (0 ≤ i) && decide (i < n) | _ => false
theorem T.ty_of {x : T} (h : x.nopen = true) : ∃ y, x.ty = some y := by cases x <;> first | exact ⟨_, rfl⟩ | cases h
theorem T.repb.nopen {x : T} (h : x.repb = true) : x.nopen = true := by
  cases x with
  | pen => simp [T.repb] at h
  | _ => rfl
theorem repbs_mem : ∀ {xs : List T}, T.repbs xs = true → ∀ x ∈ xs, x.repb = true
  | y :: ys, h, x, hx => by
    simp only [T.repbs, Bool.and_eq_true] at h
    rcases List.mem_cons.mp hx with rfl | hx
    · exact h.1
    · exact repbs_mem h.2 x hx
theorem repb_tup {xs : List T} (h : (T.tup xs).repb = true) : ∀ x ∈ xs, x.repb = true := repbs_mem (by simpa only [T.repb] using h)
theorem wfor_all {γ : WG} {β : WS} {c : Nat} {ι : Type} {mk : ι → TFr} (p : T → Bool) (t : T) : ∀ (xs : List T), (∀ x ∈ xs, ∀ s, ∃ s', ∀ K : QS, (γ x (mk s) fun τ1 => β τ1 c K) = if p x = true then K (.next (mk s')) c else K (.ret t) c) →
    ∀ s, ∃ s', ∀ R : QS, wfor γ β xs (mk s) c R = if xs.all p = true then R (.next (mk s')) c else R (.ret t) c
  | [], _, s => ⟨s, fun R => rfl⟩
  | x :: xs, h, s => by
    obtain ⟨s1, e1⟩ := h x (by simp) s
    obtain ⟨s2, e2⟩ := wfor_all p t xs (fun y hy => h y (List.mem_cons_of_mem _ hy)) s1
    refine ⟨s2, fun R => ?_⟩
    rw [wfor_cons, e1, List.all_cons]
    cases q : p x with
    | true => simp only [if_true, Bool.true_and]; exact e2 R
    | false => simp
theorem wlc_mapT {g : WG} {t : WT} {e : WE} {τ0 : TFr} {Q : QT} {c : Nat} (el : T → T) {xs : List T} (h : ∀ y ∈ xs, ∀ (K : T → Nat → Prop) (K0 : Nat → Prop), (g y τ0 fun τ1 => t τ1 c fun b c1 => if b = true then e τ1 c1 K else K0 c1) = K (el y) c)
    (hl : xs.length ≤ sizeLine) : wlc g t e τ0 xs [] c Q = Q (.lst (xs.map el)) c := by
  have := wlc_map (g := g) (t := t) (e := e) (τ0 := τ0) (Q := Q) (c := c) id el (ys := xs) h hl
  rwa [List.map_id] at this
theorem tbls_map : ∀ bs : List Bool, tbls (bs.map T.bl) = some bs
  | [] => rfl
  | b :: bs => by simp only [List.map_cons, tbls, tbls_map bs]; rfl
theorem vAll_d {bs : List Bool} {P : T → Prop} : vAll (.lst (bs.map T.bl)) P = P (.bl (bs.all id)) := by
  unfold vAll
  simp only [tbls_map]
theorem vAll_m {α : Type} {xs : List α} {p : α → Bool} {P : T → Prop} : vAll (.lst (xs.map fun x => T.bl (p x))) P = P (.bl (xs.all p)) := by
  have := vAll_d (bs := xs.map p) (P := P)
  rw [List.map_map] at this
  rw [show (fun x => T.bl (p x)) = T.bl ∘ p from rfl, this, List.all_map]
  rfl
structure SmL (m w : Nat) (xs : List T) : Prop where
  rb : T.repbs xs = true
  dp : T.deps xs ≤ m
  ty : tinyZs (T.pds xs) = true
  wt : PyData.weightAll (T.pds xs) ≤ w
theorem SmL.nil {m : Nat} : SmL m 0 [] := ⟨rfl, Nat.zero_le _, rfl, by simp [T.pds, PyData.weightAll]⟩
theorem SmL.cons {m w w' : Nat} {x : T} {xs : List T} (a : Sm m w x) (b : SmL m w' xs) : SmL m (w + 1 + w') (x :: xs) := by
  obtain ⟨a1, a2, a3, a4⟩ := a
  obtain ⟨b1, b2, b3, b4⟩ := b
  refine ⟨by simp only [T.repbs, a1, b1, Bool.and_self], by simp only [T.deps]; omega, by simp only [T.pds, tinyZs, a3, b3, Bool.and_self], ?_⟩
  simp only [T.pds, PyData.weightAll]
  omega
theorem SmL.app {m w w' : Nat} : ∀ {xs ys : List T}, SmL m w xs → SmL m w' ys → SmL m (w + w') (xs ++ ys)
  | [], ys, _, b => ⟨b.rb, b.dp, b.ty, by have := b.wt; rw [List.nil_append]; omega⟩
  | x :: xs, ys, ⟨a1, a2, a3, a4⟩, b => by
    simp only [T.repbs, Bool.and_eq_true] at a1
    simp only [T.deps] at a2
    simp only [T.pds, tinyZs, Bool.and_eq_true] at a3
    simp only [T.pds, PyData.weightAll] at a4
    obtain ⟨c1, c2, c3, c4⟩ := SmL.app (xs := xs) (w := PyData.weightAll (T.pds xs)) ⟨a1.2, by omega, a3.2, Nat.le_refl _⟩ b
    refine ⟨by simp only [List.cons_append, T.repbs, a1.1, c1, Bool.and_self], by simp only [List.cons_append, T.deps]; omega, by simp only [List.cons_append, T.pds, tinyZs, a3.1, c3, Bool.and_self], ?_⟩
    simp only [List.cons_append, T.pds, PyData.weightAll]
    omega
theorem SmL.mono {m w m' w' : Nat} {xs : List T} (s : SmL m w xs) (hm : m ≤ m') (hw : w ≤ w') : SmL m' w' xs := ⟨s.rb, Nat.le_trans s.dp hm, s.ty, Nat.le_trans s.wt hw⟩
theorem SmL.dpt {m w m' : Nat} {xs : List T} (s : SmL m w xs) (hm : m ≤ m') : SmL m' w xs := s.mono hm (Nat.le_refl _)
theorem SmL.one {m w : Nat} {x : T} (a : Sm m w x) : SmL m (w + 1) [x] := (SmL.cons a SmL.nil).mono (Nat.le_refl _) (by omega)
theorem SmL.of {m w : Nat} {xs : List T} (h : ∀ x ∈ xs, Sm m w x) : SmL m (xs.length * (w + 1)) xs := by
  obtain ⟨a, b, c, d⟩ := Sm.all h
  exact ⟨a, b, c, d⟩
theorem SmL.tup {m w : Nat} {xs : List T} (s : SmL m w xs) : Sm (m + 1) w (.tup xs) :=
  ⟨by simpa only [T.repb] using s.rb, by have := s.dp; simp only [T.dep]; omega, by simpa only [T.pd, tinyZ] using s.ty, by have := s.wt; simp only [T.pd, PyData.weight]; omega⟩
theorem SmL.lst {m w : Nat} {xs : List T} (s : SmL m w xs) : Sm (m + 1) w (.lst xs) :=
  ⟨by simpa only [T.repb] using s.rb, by have := s.dp; simp only [T.dep]; omega, by simpa only [T.pd, tinyZ] using s.ty, by have := s.wt; simp only [T.pd, PyData.weight]; omega⟩
theorem SmL.tl {m w : Nat} {x : T} {xs : List T} (s : SmL m w (x :: xs)) : SmL m w xs := by
  obtain ⟨a1, a2, a3, a4⟩ := s
  simp only [T.repbs, Bool.and_eq_true] at a1
  simp only [T.deps] at a2
  simp only [T.pds, tinyZs, Bool.and_eq_true] at a3
  simp only [T.pds, PyData.weightAll] at a4
  exact ⟨a1.2, by omega, a3.2, by omega⟩
theorem SmL.hd {m w : Nat} {x : T} {xs : List T} (s : SmL m w (x :: xs)) : Sm m w x := by
  obtain ⟨a1, a2, a3, a4⟩ := s
  simp only [T.repbs, Bool.and_eq_true] at a1
  simp only [T.deps] at a2
  simp only [T.pds, tinyZs, Bool.and_eq_true] at a3
  simp only [T.pds, PyData.weightAll] at a4
  exact ⟨a1.1, by omega, a3.1, by omega⟩
theorem SmL.drop {m w : Nat} : ∀ {xs : List T} (n : Nat), SmL m w xs → SmL m w (xs.drop n)
  | _, 0, s => s
  | [], _ + 1, s => s
  | _ :: _, n + 1, s => SmL.drop n s.tl
theorem SmL.take {m w : Nat} : ∀ {xs : List T} (n : Nat), SmL m w xs → SmL m w (xs.take n)
  | _, 0, s => SmL.nil.mono (Nat.le_refl _) (Nat.zero_le _)
  | [], _ + 1, s => s
  | x :: xs, n + 1, s => by
    have hd := s.hd
    obtain ⟨a1, a2, a3, a4⟩ := s
    simp only [T.repbs, Bool.and_eq_true] at a1
    simp only [T.deps] at a2
    simp only [T.pds, tinyZs, Bool.and_eq_true] at a3
    simp only [T.pds, PyData.weightAll] at a4
    obtain ⟨c1, c2, c3, c4⟩ := SmL.take (xs := xs) (m := m) (w := PyData.weightAll (T.pds xs)) n ⟨a1.2, by omega, a3.2, Nat.le_refl _⟩
    refine ⟨by simp only [List.take_succ_cons, T.repbs, a1.1, c1, Bool.and_self], by simp only [List.take_succ_cons, T.deps]; omega, by simp only [List.take_succ_cons, T.pds, tinyZs, a3.1, c3, Bool.and_self], ?_⟩
    simp only [List.take_succ_cons, T.pds, PyData.weightAll]
    omega
theorem SmL.cut {m w : Nat} {xs : List T} (s : SmL m w xs) (lo hi : Option Int) : SmL m w (cutT xs lo hi) := (s.drop _).take _
theorem cutT_len {xs : List T} {lo hi : Option Int} : (cutT xs lo hi).length ≤ xs.length := by
  unfold cutT
  simp only [List.length_take, List.length_drop]
  omega
theorem SmL.rep {m w : Nat} {xs : List T} (s : SmL m w xs) : ∀ n : Nat, SmL m (n * w) (List.replicate n xs).flatten
  | 0 => by simpa using SmL.nil
  | n + 1 => by
    rw [List.replicate_succ, List.flatten_cons]
    exact (s.app (SmL.rep s n)).mono (Nat.le_refl _) (by rw [Nat.add_mul]; omega)
theorem Sm.str {x : Str} (h : x.cps.toList.all (fun c => decide (c < 1114112)) = true) {w : Nat} (hw : (T.str x).pd.weight ≤ w) : Sm 0 w (.str x) := ⟨rfl, Nat.le_refl _, h, hw⟩
theorem Sm.dct0 : Sm 0 0 (.dct []) := ⟨rfl, Nat.le_refl _, rfl, by simp [T.pd, PyData.weight, PyData.weightKv]⟩
theorem Sm.nat {i : Int} (h0 : -1 ≤ i) (h1 : i ≤ 16) : Sm 0 6 (.int i) := Sm.int (by show i.natAbs < 64; omega) (by decide) (by decide)
end EV
set_option Elab.async false
set_option linter.all false
set_option autoImplicit false
set_option maxRecDepth 100000
namespace EV
open PySem PySem.Spec L2
theorem cutT_pre {xs : List T} (i : Nat) : cutT xs none (some (i : Int)) = xs.take i := by
  unfold cutT
  rw [HT.sIx_none, HT.sIx_nat, List.drop_zero, Nat.sub_zero]
  rcases Nat.le_total i xs.length with h | h
  · rw [Nat.min_eq_left h]
  · rw [Nat.min_eq_right h, List.take_length, List.take_of_length_le h]
theorem cutT_suf {xs : List T} (i : Nat) : cutT xs (some (i : Int)) none = xs.drop i := by
  unfold cutT
  rw [HT.sIx_none, HT.sIx_nat]
  rcases Nat.le_total i xs.length with h | h
  · rw [Nat.min_eq_left h, List.take_of_length_le (by simp)]
  · rw [Nat.min_eq_right h, List.drop_length, List.drop_of_length_le h, List.take_nil]
theorem cutT_mid {xs : List T} (i j : Nat) (hj : j ≤ xs.length) : cutT xs (some (i : Int)) (some (j : Int)) = (xs.drop i).take (j - i) := by
  unfold cutT
  rw [HT.sIx_nat, HT.sIx_nat]
  rcases Nat.le_total i xs.length with h | h
  · rw [Nat.min_eq_left h, Nat.min_eq_left hj]
  · rw [Nat.min_eq_right h, List.drop_length, List.drop_of_length_le h, List.take_nil, List.take_nil]
end EV
set_option Elab.async false
set_option linter.all false
set_option autoImplicit false
set_option maxRecDepth 100000
namespace EV
open PySem PySem.Spec L2
end EV
set_option Elab.async false
set_option linter.all false
set_option autoImplicit false
set_option maxRecDepth 100000
namespace EV
open PySem PySem.Spec L2
def penLD (c : Nat) (a l : Int) : List (Key × D) := [(Sum.inr "cells", .ref c), (Sum.inr "at", .int a), (Sum.inr "left", .int l)]
def penOD (c : Nat) (a l : Int) : AO := .dct (penLD c a l)
structure PenD (h : AH) (p c : Nat) (cs : List Int) (a l : Int) : Prop where
  pen : h[p]? = some (penOD c a l)
  cells : h[c]? = some (.lst (cs.map D.int))
  ne : c ≠ p
  a0 : 0 ≤ a
  l0 : 0 ≤ l
theorem PenD.pl {h : AH} {p c : Nat} {cs : List Int} {a l : Int} (P : PenD h p c cs a l) : p < h.length := (List.getElem?_eq_some_iff.mp P.pen).1
theorem PenD.cl {h : AH} {p c : Nat} {cs : List Int} {a l : Int} (P : PenD h p c cs a l) : c < h.length := (List.getElem?_eq_some_iff.mp P.cells).1
theorem PenD.set {h : AH} {p c : Nat} {cs : List Int} {a l a' l' : Int} (P : PenD h p c cs a l) (a0 : 0 ≤ a') (l0 : 0 ≤ l') : PenD (h.set p (penOD c a' l')) p c cs a' l' :=
  ⟨List.getElem?_set_self P.pl, by rw [List.getElem?_set_ne (Ne.symm P.ne)]; exact P.cells, P.ne, a0, l0⟩
end EV
set_option Elab.async false
set_option linter.all false
set_option autoImplicit false
set_option maxRecDepth 100000
namespace EV
open PySem PySem.Spec L2
theorem fitL {m : Nat} (h : m ≤ 100000) : m ≤ sizeLine := by rw [sizeLine_eq]; omega
theorem Sm.el {m w : Nat} {xs : List T} (s : Sm (m + 1) w (.tup xs)) : SmL m w xs :=
  ⟨by simpa only [T.repb] using s.rb, by have := s.dp; simp only [T.dep] at this; omega, by simpa only [T.pd, tinyZ] using s.ty, by simpa only [T.pd, PyData.weight] using s.wt⟩
theorem Sm.tup0 {w : Nat} {xs : List T} (s : Sm 0 w (.tup xs)) : False := by
  have := s.dp
  simp [T.dep] at this
theorem SmL.mem {m w : Nat} : ∀ {xs : List T}, SmL m w xs → ∀ x ∈ xs, Sm m w x
  | y :: ys, s, x, hx => by
    rcases List.mem_cons.mp hx with rfl | hx
    · exact s.hd
    · exact SmL.mem s.tl x hx
theorem Sm.rev {m w : Nat} {xs : List T} (s : SmL m w xs) : SmL m w xs.reverse := by
  have key : ∀ (ys zs : List T) (a b : Nat), SmL m a ys → SmL m b zs → SmL m (a + b) (ys.reverse ++ zs) := by
    intro ys
    induction ys with
    | nil => intro zs a b _ hz; simpa using hz.mono (Nat.le_refl _) (Nat.le_add_left _ _)
    | cons y ys ih =>
      intro zs a b hy hz
      have h1 := hy.hd
      obtain ⟨a1, a2, a3, a4⟩ := hy
      simp only [T.repbs, Bool.and_eq_true] at a1
      simp only [T.deps] at a2
      simp only [T.pds, tinyZs, Bool.and_eq_true] at a3
      simp only [T.pds, PyData.weightAll] at a4
      have s1 : Sm m y.pd.weight y := ⟨a1.1, by omega, a3.1, Nat.le_refl _⟩
      have s2 : SmL m (PyData.weightAll (T.pds ys)) ys := ⟨a1.2, by omega, a3.2, Nat.le_refl _⟩
      have := ih (y :: zs) _ _ s2 (SmL.cons s1 hz)
      rw [List.reverse_cons, List.append_assoc, List.singleton_append]
      exact this.mono (Nat.le_refl _) (by omega)
  have := key xs [] w 0 s SmL.nil
  simpa using this
end EV
set_option Elab.async false
set_option linter.all false
set_option autoImplicit false
set_option maxRecDepth 100000
namespace EV
open PySem PySem.Spec L2
def shareB : T → Bool
  | .tup [.int a, .int b] => decide (1 ≤ b) && (Int.gcd a b == 1)
  | _ => false
def shq : T → Rat
  | .tup [.int a, .int b] => Rat.divInt a b
  | _ => 0
def kindB (x : T) : Bool := shareB x && decide (0 < shq x)
def gapB (x : T) : Bool := shareB x && (!decide (shq x < 0) && !decide (hQ < shq x))
def mrkB : T → Bool
  | .tup xs => (T.tup xs).tupB 2 3 && (xs.all kindB && decide (sumQ (xs.map shq) = 1))
  | _ => false
def lineB : T → Bool
  | .tup [.tup ms, .tup gs] => ((T.tup ms).tupB 1 3 && (T.tup gs).tupB ((ms.length : Int) - 1) ((ms.length : Int) - 1)) && (ms.all mrkB && gs.all gapB)
  | _ => false
theorem tupB_two {x : T} (h : x.tupB 2 2 = true) : ∃ a b, x = .tup [a, b] := by
  cases x with
  | tup xs =>
    simp only [T.tupB, Bool.and_eq_true, decide_eq_true_eq] at h
    match xs, h with
    | [a, b], _ => exact ⟨a, b, rfl⟩
    | [], h => simp at h
    | [a], h => simp at h
    | a :: b :: c :: xs, h => simp only [List.length_cons] at h; omega
  | _ => simp [T.tupB] at h
theorem tupB_some {x : T} {a b : Int} (h : x.tupB a b = true) : ∃ xs, x = .tup xs ∧ a ≤ xs.length ∧ (xs.length : Int) ≤ b := by
  cases x with
  | tup xs => exact ⟨xs, rfl, by simpa only [T.tupB, Bool.and_eq_true, decide_eq_true_eq] using h⟩
  | _ => simp [T.tupB] at h
theorem shareB_two {x : T} (h : x.tupB 2 2 = false) : shareB x = false := by
  cases q : shareB x with
  | false => rfl
  | true =>
    unfold shareB at q
    split at q
    · cases h
    · cases q
theorem shq_sh (q : Rat) : shq (shT q) = q := by
  show Rat.divInt q.num q.den = q
  exact Rat.num_divInt_den q
theorem shareB_shT (q : Rat) : shareB (shT q) = true := by
  show (decide (1 ≤ (q.den : Int)) && (Int.gcd q.num q.den == 1)) = true
  have h1 : (1 : Int) ≤ (q.den : Int) := by have := q.den_nz; omega
  have h2 : Int.gcd q.num q.den = 1 := q.reduced
  rw [decide_eq_true h1, h2]
  rfl
theorem SmL.len {m w : Nat} {xs : List T} (s : SmL m w xs) : xs.length ≤ w := by
  have key : ∀ ys : List T, ys.length ≤ PyData.weightAll (T.pds ys) := by
    intro ys
    induction ys with
    | nil => simp
    | cons y ys ih => simp only [T.pds, PyData.weightAll, List.length_cons]; omega
  exact Nat.le_trans (key xs) s.wt
theorem Sm.els {m w : Nat} {xs : List T} (s : Sm m w (.tup xs)) : SmL m w xs := by
  cases m with
  | zero => exact s.tup0.elim
  | succ m => exact s.el.mono (by omega) (Nat.le_refl _)
theorem neg_num {q : Rat} : decide (0 ≤ 2 * q.num) = !decide (q < 0) := by
  have h := lt_dec (p := q) (q := 0)
  rw [← h]
  by_cases z : q.num < 0
  · rw [decide_eq_false (by omega), decide_eq_true (by simpa using z)]; rfl
  · rw [decide_eq_true (by omega), decide_eq_false (by simpa using z)]; rfl
theorem half_num {q : Rat} : decide (2 * q.num ≤ (q.den : Int)) = !decide (hQ < q) := by
  have h := lt_dec (p := hQ) (q := q)
  have e1 : hQ.num = 1 := by decide
  have e2 : hQ.den = 2 := by decide
  rw [← h, e1, e2]
  by_cases z : 1 * (q.den : Int) < q.num * ((2 : Nat) : Int)
  · rw [decide_eq_false (by omega), decide_eq_true z]; rfl
  · rw [decide_eq_true (by omega), decide_eq_false z]; rfl
end EV
namespace EV
open PySem PySem.Spec L2
structure Mark (qs : List Rat) : Prop where
  len2 : 2 ≤ qs.length
  len3 : qs.length ≤ 3
  sz : ∀ q ∈ qs, Sz 14 q
  pos : ∀ q ∈ qs, 0 < q
  sum : sumQ qs = 1
def markT (qs : List Rat) : T := .tup (qs.map shT)
theorem pos_div {a d : Int} (ha : 0 < a) (hd : 0 < d) : (0 : Rat) < Rat.divInt a d := by
  have hd0 : d ≠ 0 := by omega
  have h := lt_dec (p := 0) (q := Rat.divInt a d)
  have hn : 0 < (Rat.divInt a d).num := by
    rw [div_num hd0, if_neg (by omega)]
    have hg := gcd_pos' (a := a) hd0
    exact Int.ediv_pos_of_pos_of_dvd ha (by omega) (Int.gcd_dvd_left a d)
  have : decide ((0 : Rat) < Rat.divInt a d) = true := by rw [← h, decide_eq_true_eq]; simpa using hn
  exact of_decide_eq_true this
theorem sz_div {a d : Int} (h0 : 0 ≤ a) (h1 : a ≤ d) (h2 : 0 < d) (h3 : d ≤ 10000) : Sz 14 (Rat.divInt a d) :=
  Sz.divInt (by omega) (by show a.natAbs < 16384; omega) (by show d.natAbs < 16384; omega)
theorem Mark.two {a d : Int} (ha : 0 < a) (hb : a < d) (h : d ≤ 10000) : Mark [Rat.divInt a d, Rat.divInt (d - a) d] := by
  refine ⟨by simp, by simp, ?_, ?_, ?_⟩
  · intro q hq
    simp only [List.mem_cons, List.not_mem_nil, or_false] at hq
    rcases hq with rfl | rfl
    · exact sz_div (by omega) (by omega) (by omega) h
    · exact sz_div (by omega) (by omega) (by omega) h
  · intro q hq
    simp only [List.mem_cons, List.not_mem_nil, or_false] at hq
    rcases hq with rfl | rfl
    · exact pos_div ha (by omega)
    · exact pos_div (by omega) (by omega)
  · rw [sumQ_cons, sumQ_cons, show sumQ [] = 0 from rfl, Rat.add_zero, divInt_same (by omega), show a + (d - a) = d by omega, Rat.divInt_self' (by omega)]
theorem Mark.three {a b d : Int} (ha : 0 < a) (hb : 0 < b) (hc : a + b < d) (h : d ≤ 10000) : Mark [Rat.divInt a d, Rat.divInt b d, Rat.divInt (d - a - b) d] := by
  refine ⟨by simp, by simp, ?_, ?_, ?_⟩
  · intro q hq
    simp only [List.mem_cons, List.not_mem_nil, or_false] at hq
    rcases hq with rfl | rfl | rfl
    · exact sz_div (by omega) (by omega) (by omega) h
    · exact sz_div (by omega) (by omega) (by omega) h
    · exact sz_div (by omega) (by omega) (by omega) h
  · intro q hq
    simp only [List.mem_cons, List.not_mem_nil, or_false] at hq
    rcases hq with rfl | rfl | rfl
    · exact pos_div ha (by omega)
    · exact pos_div hb (by omega)
    · exact pos_div (by omega) (by omega)
  · rw [sumQ_cons, sumQ_cons, sumQ_cons, show sumQ [] = 0 from rfl, Rat.add_zero, divInt_same (by omega), divInt_same (by omega), show a + (b + (d - a - b)) = d by omega, Rat.divInt_self' (by omega)]
theorem Mark.ok {qs : List Rat} (m : Mark qs) : mrkB (markT qs) = true := by
  have h2 := m.len2
  have h3 := m.len3
  have e : (qs.map shT).map shq = qs := by
    rw [List.map_map]
    conv => rhs; rw [← List.map_id qs]
    apply List.map_congr_left
    intro q _
    exact shq_sh q
  simp only [markT, mrkB, T.tupB, List.length_map, Bool.and_eq_true, decide_eq_true_eq, e]
  refine ⟨⟨by omega, by omega⟩, ?_, m.sum⟩
  rw [List.all_eq_true]
  intro x hx
  obtain ⟨q, hq, rfl⟩ := List.mem_map.mp hx
  simp only [kindB, shareB_shT, shq_sh, Bool.true_and, decide_eq_true_eq]
  exact m.pos q hq
structure GapQ (q : Rat) : Prop where
  sz : Sz 14 q
  lo : ¬ q < 0
  hi : ¬ hQ < q
theorem GapQ.of {a d : Int} (h0 : 0 ≤ a) (h1 : 2 * a ≤ d) (h2 : 0 < d) (h3 : d ≤ 10000) : GapQ (Rat.divInt a d) := by
  have hd0 : d ≠ 0 := by omega
  have hg := gcd_pos' (a := a) hd0
  obtain ⟨u, hu⟩ := Int.gcd_dvd_left a d
  obtain ⟨v, hv⟩ := Int.gcd_dvd_right a d
  have n : (Rat.divInt a d).num = u := by
    rw [div_num hd0, if_neg (by omega)]
    exact Int.ediv_eq_of_eq_mul_right (by omega) hu
  have e : ((Rat.divInt a d).den : Int) = v := by
    rw [div_den hd0, if_neg (by omega)]
    exact Int.ediv_eq_of_eq_mul_right (by omega) hv
  have gp : (0 : Int) < (Int.gcd a d : Int) := by omega
  have u0 : 0 ≤ u := by
    rw [hu] at h0
    exact Int.nonneg_of_mul_nonneg_right h0 gp
  have uv : 2 * u ≤ v := by
    have : (Int.gcd a d : Int) * (2 * u) ≤ (Int.gcd a d : Int) * v := by
      rw [← hv, Int.mul_left_comm, ← hu]; exact h1
    exact Int.le_of_mul_le_mul_left this gp
  refine ⟨sz_div h0 (by omega) h2 h3, fun z => ?_, fun z => ?_⟩
  · have := neg_num (q := Rat.divInt a d)
    rw [decide_eq_true z, n, decide_eq_true (by omega)] at this
    cases this
  · have := half_num (q := Rat.divInt a d)
    rw [decide_eq_true z, n, e, decide_eq_true uv] at this
    cases this
structure Track (ms : List (List Rat)) (gs : List Rat) : Prop where
  len1 : 1 ≤ ms.length
  len3 : ms.length ≤ 3
  mks : ∀ qs ∈ ms, Mark qs
  gl : gs.length + 1 = ms.length
  gp : ∀ q ∈ gs, GapQ q
def trackT (ms : List (List Rat)) (gs : List Rat) : T := .tup [.tup (ms.map markT), .tup (gs.map shT)]
theorem Track.ok {ms : List (List Rat)} {gs : List Rat} (t : Track ms gs) : lineB (trackT ms gs) = true := by
  have h1 := t.len1
  have h3 := t.len3
  have hg := t.gl
  simp only [trackT, lineB, T.tupB, List.length_map, Bool.and_eq_true, decide_eq_true_eq]
  refine ⟨⟨⟨by omega, by omega⟩, by omega, by omega⟩, ?_, ?_⟩
  · rw [List.all_eq_true]
    intro x hx
    obtain ⟨q, hq, rfl⟩ := List.mem_map.mp hx
    exact (t.mks q hq).ok
  · rw [List.all_eq_true]
    intro x hx
    obtain ⟨q, hq, rfl⟩ := List.mem_map.mp hx
    have := t.gp q hq
    simp only [gapB, shareB_shT, shq_sh, Bool.true_and, decide_eq_false this.lo, decide_eq_false this.hi]
    rfl
theorem Mark.sm {qs : List Rat} (m : Mark qs) : SmL 1 93 (qs.map shT) := by
  refine (SmL.of (m := 1) (w := 30) fun x hx => ?_).mono (Nat.le_refl _) (by have := m.len3; rw [List.length_map]; omega)
  obtain ⟨q, hq, rfl⟩ := List.mem_map.mp hx
  exact Sm.sh (m.sz q hq) (by decide) (by decide)
theorem Track.smM {ms : List (List Rat)} {gs : List Rat} (t : Track ms gs) : SmL 2 282 (ms.map markT) := by
  refine (SmL.of (m := 2) (w := 93) fun x hx => ?_).mono (Nat.le_refl _) (by have := t.len3; rw [List.length_map]; omega)
  obtain ⟨q, hq, rfl⟩ := List.mem_map.mp hx
  exact (t.mks q hq).sm.tup
theorem Track.smG {ms : List (List Rat)} {gs : List Rat} (t : Track ms gs) : SmL 1 62 (gs.map shT) := by
  refine (SmL.of (m := 1) (w := 30) fun x hx => ?_).mono (Nat.le_refl _) (by have := t.len3; have := t.gl; rw [List.length_map]; omega)
  obtain ⟨q, hq, rfl⟩ := List.mem_map.mp hx
  exact Sm.sh (t.gp q hq).sz (by decide) (by decide)
theorem Track.sm {ms : List (List Rat)} {gs : List Rat} (t : Track ms gs) : Sm 4 346 (trackT ms gs) :=
  (SmL.cons t.smM.tup (SmL.one (t.smG.tup.mono (show 2 ≤ 3 by decide) (Nat.le_refl _)))).tup.mono (by decide) (by decide)
end EV
set_option Elab.async false
set_option linter.all false
set_option autoImplicit false
set_option maxRecDepth 100000
namespace EV
open PySem PySem.Spec L2
def T.isTx (b : Str) : T → Bool | .str a => decide (a = b) | _ => false
theorem vEqS_d {x : T} (h : x.nopen = true) {b : Str} {P : T → Prop} : vEqS x (.str b) P = P (.bl (x.isTx b)) := by
  cases x <;> first | rfl | cases h
theorem vEqU_t {xs : List T} {P : T → Prop} : vEqU (.tup xs) (.tup []) P = P (.bl xs.isEmpty) := id rfl
theorem vEqL_e {xs : List T} {P : T → Prop} : vEqL false (.lst xs) (.lst []) P = P (.bl xs.isEmpty) := id rfl
theorem vEqL_n {xs : List T} {P : T → Prop} : vEqL true (.lst xs) (.lst []) P = P (.bl (!xs.isEmpty)) := id rfl
theorem wGet2_d {f g t : WE} {τ : TFr} {c : Nat} {Q : QT} : wGet2 f g t τ c Q = (f τ c fun x c1 => g τ c1 fun y c2 => t τ c2 fun z c3 => match x, y with
  | .dct kvs, .int i => Q ((tget kvs (.int i)).getD z) c3
  | .dct kvs, .str i => Q ((tget kvs (.str i)).getD z) c3
  | _, _ => False) := id rfl
theorem tget_nil {k : T} : tget [] k = none := by simp [tget]
theorem tget_s {a b : Str} {v : T} {r : List (T × T)} : tget ((.str a, v) :: r) (.str b) = if a = b then some v else tget r (.str b) := by
  by_cases h : a = b
  · subst h; simp [tget]
  · simp [tget, List.find?_cons, h]
theorem Sm.tx {m w : Nat} {a : Str} (s : Sm m w (.str a)) : (T.str a).plain = true := by
  have := s.ty
  simp only [T.pd, tinyZ] at this
  simp only [T.plain, PyData.canLay0, PyData.strOk, ← Array.all_toList]
  exact this
theorem vInD_s2 {a b c : Str} (ha : (T.str a).plain = true) (hb : (T.str b).plain = true) (hc : (T.str c).plain = true) {P : T → Prop} : vInD false (.str a) (.tup [.str b, .str c]) P = P (.bl (decide (a = b) || decide (a = c))) := by
  rw [vInD_t]
  have ok : (T.str a).okq ∧ T.plains [.str b, .str c] = true ∧ T.deps [.str b, .str c] ≤ 39 := ⟨⟨ha, Nat.zero_le _⟩, by simp only [T.plains, hb, hc, Bool.and_self], by simp [T.deps, T.dep]⟩
  rw [eq_true ok, true_and]
  congr 2
  simp only [T.pds, T.pd, List.any_cons, List.any_nil, Bool.or_false, PyData.eqv, Bool.false_eq_true, if_false]
  have e : ∀ x y : Str, (x == y) = decide (y = x) := fun x y => by
    by_cases h : y = x
    · subst h; simp
    · rw [decide_eq_false h]; exact beq_eq_false_iff_ne.mpr fun z => h z.symm
  rw [e, e]
theorem filter_empty {xs : List T} {p : T → Bool} : (xs.filter fun x => !p x).isEmpty = xs.all p := by
  induction xs with
  | nil => rfl
  | cons x xs ih =>
    rw [List.all_cons]
    cases q : p x with
    | true => rw [List.filter_cons_of_neg (by simp [q]), ih]; simp
    | false => rw [List.filter_cons_of_pos (by simp [q])]; simp
end EV
set_option Elab.async false
set_option linter.all false
set_option autoImplicit false
set_option maxRecDepth 100000
namespace Mine
open PySem PySem.Spec PyProof.Rows L2 EV
def top (i : Nat) : Stmt := PySem.Challenge.pw_crossmarks_k84_programs_known.main.body.getD i (.Pass ⟨0, 0, 0, 0⟩)
abbrev s__law_pen : Stmt := top 16
abbrev s__law_take : Stmt := top 17
abbrev s__law_line : Stmt := top 25
abbrev s__law_odd : Stmt := top 26
abbrev s__law_bent : Stmt := top 27
abbrev s_is_tuple_of : Stmt := top 3
abbrev s_is_whole : Stmt := top 1
abbrev s_is_below : Stmt := top 2
abbrev s_are_numbers : Stmt := top 11
abbrev s_are_told_pairs : Stmt := top 12
abbrev s_common_divisor : Stmt := top 5
abbrev s_is_share : Stmt := top 6
abbrev s_is_program_line : Stmt := top 13
abbrev s_is_program : Stmt := top 14
abbrev s__law_is_number : Stmt := top 20
abbrev s__law_are_pairs : Stmt := top 22
abbrev s__law_common : Stmt := top 18
abbrev s__law_is_share : Stmt := top 21
abbrev s__law_is_line : Stmt := top 23
abbrev s__law_due : Stmt := top 24
abbrev s_law : Stmt := top 28
def c_MOST_LINES : D := .int 12
def c_MOST_PAIRS : D := .int 9
def c_NUMBERS : D := .int 10
structure Txt (K : PySem.W.Frag) (mg : Str → Option Value) : Prop where
  b_abs : mg "abs" = none
  b_all : mg "all" = none
  b_bool : mg "bool" = none
  b_int : mg "int" = none
  b_isinstance : mg "isinstance" = none
  b_len : mg "len" = none
  b_list : mg "list" = none
  b_range : mg "range" = none
  b_repr : mg "repr" = none
  b_str : mg "str" = none
  b_tuple : mg "tuple" = none
  u_MOST_LINES : ∃ u, mg "MOST_LINES" = some u ∧ GlD K c_MOST_LINES u
  u_MOST_PAIRS : ∃ u, mg "MOST_PAIRS" = some u ∧ GlD K c_MOST_PAIRS u
  u_NUMBERS : ∃ u, mg "NUMBERS" = some u ∧ GlD K c_NUMBERS u
set_option maxHeartbeats 4000000
noncomputable def B__law_pen : SF := (sRet (eLst (aCons (eSlA (eVar 0) oNone (oSome (eK (.int 63)))) (aCons (eK (.int 0)) (aCons (eK (.int 0)) aNil)))))
noncomputable def F__law_pen : BF := mkFn 1 1 B__law_pen
noncomputable def B__law_take : SF := (sSeq (sIf (tB (eBin oGt (eBin oIx (eVar 0) (eK (.int 2))) (eK (.int 0)))) (sSeq (sSet 5 (eBin oMod (eBin oIx (eVar 0) (eK (.int 2))) (eVar 1))) (sSeq (sPut (eVar 0) (eK (.int 2)) (eBin oFdiv (eBin oIx (eVar 0) (eK (.int 2))) (eVar 1))) (sRet (eVar 5)))) sNext) (sSeq (sSet 2 (eBin oIx (eVar 0) (eK (.int 1)))) (sSeq (sPut (eVar 0) (eK (.int 1)) (eBin oAddA (eVar 2) (eK (.int 1)))) (sSeq (sSet 3 (eK (.int 139))) (sSeq (sIf (tB (eBin oGt (eApp bLen (aCons (eBin oIx (eVar 0) (eK (.int 0))) aNil)) (eK (.int 0)))) (sSet 3 (eBin oIx (eBin oIx (eVar 0) (eK (.int 0))) (eBin oMod (eVar 2) (eApp bLen (aCons (eBin oIx (eVar 0) (eK (.int 0))) aNil))))) sNext) (sSeq (sIf (tAnd2 (tB (eBin oLt (eVar 2) (eApp bLen (aCons (eBin oIx (eVar 0) (eK (.int 0))) aNil)))) (tB (eBin oGe (eApp bAbs (aCons (eVar 3) aNil)) (eBin oPow (eK (.int 10)) (eK (.int 18)))))) (sSeq (sSet 6 (eBin oAddA (eBin oMulA (eK (.int 2)) (eApp bAbs (aCons (eVar 3) aNil))) (eApp bInt (aCons (eBin oLt (eVar 3) (eK (.int 0))) aNil)))) (sSeq (sPut (eVar 0) (eK (.int 2)) (eBin oFdiv (eVar 6) (eVar 1))) (sRet (eBin oMod (eVar 6) (eVar 1))))) sNext) (sSeq (sSet 4 (eBin oMod (eBin oPow (eBin oAddA (eBin oAddA (eBin oMod (eVar 3) (eK (.int 2147483587))) (eBin oMulA (eK (.int 8231)) (eVar 2))) (eK (.int 401))) (eK (.int 3))) (eK (.int 2147483647)))) (sSeq (sSet 4 (eBin oMod (eBin oPow (eBin oAddA (eBin oMulA (eVar 4) (eBin oAddA (eVar 2) (eK (.int 60037)))) (eBin oMod (eVar 3) (eK (.int 1039)))) (eK (.int 2))) (eK (.int 2147483629)))) (sRet (eBin oMod (eBin oFdiv (eVar 4) (eK (.int 128))) (eVar 1)))))))))))
noncomputable def F__law_take : BF := mkFn 2 7 B__law_take
noncomputable def B__law_line : SF := (sSeq (sPar 4 5 (aCons (eApp F__law_take (aCons (eVar 0) (aCons (eK (.int 10)) aNil))) (aCons (eBin oIx (eLst (aCons (eK (.int 0)) (aCons (eK (.int 9)) (aCons (eK (.int 1)) aNil)))) (eApp F__law_take (aCons (eVar 0) (aCons (eK (.int 3)) aNil)))) aNil))) (sSeq (sSet 1 (eBin oIx (eLst (aCons (eTup (aCons (eK (.int 1)) (aCons (eK (.int 2)) aNil))) (aCons (eTup (aCons (eK (.int 0)) (aCons (eK (.int 1)) aNil))) (aCons (eTup (aCons (eK (.int 3)) (aCons (eK (.int 1)) aNil))) (aCons (eTup (aCons (eNeg (eK (.int 7))) (aCons (eK (.int 9)) aNil))) (aCons (eTup (aCons (eBin oAddA (eBin oPow (eK (.int 10)) (eK (.int 12))) (eK (.int 1))) (aCons (eBin oPow (eK (.int 10)) (eK (.int 12))) aNil))) aNil)))))) (eApp F__law_take (aCons (eVar 0) (aCons (eK (.int 5)) aNil))))) (sSeq (sSet 2 (eApp bTuple (aCons (eLC (iR1 (aCons (eBin oIx (eLst (aCons (eK (.int 1)) (aCons (eK (.int 9)) (aCons (eK (.int 2)) aNil)))) (eApp F__law_take (aCons (eVar 0) (aCons (eK (.int 3)) aNil)))) aNil)) [6] (gSet 6) tTrue (eTup (aCons (eApp F__law_take (aCons (eVar 0) (aCons (eK (.int 10)) aNil))) (aCons (eApp F__law_take (aCons (eVar 0) (aCons (eK (.int 10)) aNil))) aNil)))) aNil))) (sSeq (sSet 3 (eLst (aCons (eTup (aCons (eK (.str "see")) (aCons (eVar 4) (aCons (eVar 5) (aCons (eVar 2) aNil))))) (aCons (eTup (aCons (eK (.str "forget")) (aCons (eVar 4) (aCons (eVar 5) aNil)))) (aCons (eTup (aCons (eK (.str "gap")) (aCons (eVar 4) (aCons (eVar 1) aNil)))) (aCons (eTup (aCons (eK (.str "weight")) aNil)) (aCons (eTup (aCons (eK (.str "carries")) (aCons (eVar 4) (aCons (eVar 5) aNil)))) aNil))))))) (sRet (eBin oIx (eBin oAddA (eVar 3) (eLst (aCons (eTup (aCons (eK (.str "lot")) aNil)) aNil))) (eApp F__law_take (aCons (eVar 0) (aCons (eK (.int 6)) aNil)))))))))
noncomputable def F__law_line : BF := mkFn 1 7 B__law_line
noncomputable def B__law_odd : SF := (sSeq (sSet 2 (eLst (aCons (eK .non) (aCons (eK (.bl true)) (aCons (eK (.bl false)) (aCons (eNeg (eK (.int 1))) (aCons (eK (.int 0)) (aCons (eK (.int 9)) (aCons (eK (.int 10)) (aCons (eBin oPow (eK (.int 10)) (eK (.int 60))) (aCons (eK (.str "")) (aCons (eK (.str "see")) (aCons (eK (.str "lot")) (aCons (eK (.str "Weight")) (aCons (eK (.str "gap")) (aCons (eK (.str "forget")) (aCons (eK (.str "carries")) (aCons (eK (.str "0")) aNil)))))))))))))))))) (sSeq (sSet 2 (eBin oAddA (eVar 2) (eLst (aCons (eTup aNil) (aCons (eLst aNil) (aCons eDict0 (aCons (eTup (aCons (eK (.int 1)) (aCons (eK (.int 2)) aNil))) (aCons (eTup (aCons (eK (.int 2)) (aCons (eK (.int 4)) aNil))) (aCons (eTup (aCons (eK (.int 1)) (aCons (eK (.int 0)) aNil))) (aCons (eTup (aCons (eK (.int 0)) (aCons (eK (.int 2)) aNil))) (aCons (eTup (aCons (eK (.int 1)) (aCons (eNeg (eK (.int 2))) aNil))) (aCons (eTup (aCons (eK (.bl true)) (aCons (eK (.int 2)) aNil))) (aCons (eTup (aCons (eTup (aCons (eK (.int 0)) (aCons (eK (.int 1)) aNil))) aNil)) (aCons (eTup (aCons (eTup (aCons (eK (.int 0)) (aCons (eK (.int 1)) (aCons (eK (.int 1)) aNil)))) aNil)) (aCons (eLst (aCons (eVar 1) aNil)) aNil))))))))))))))) (sSeq (sSet 2 (eBin oAddA (eVar 2) (eLst (aCons (eTup (aCons (eVar 1) aNil)) (aCons (eBin oMulA (eTup (aCons (eTup (aCons (eK (.int 0)) (aCons (eK (.int 1)) aNil))) aNil)) (eK (.int 9))) (aCons (eBin oMulA (eTup (aCons (eTup (aCons (eK (.int 0)) (aCons (eK (.int 1)) aNil))) aNil)) (eK (.int 10))) (aCons (eTup (aCons (eTup (aCons (eK (.int 0)) (aCons (eK (.int 10)) aNil))) aNil)) (aCons (eTup (aCons (eTup (aCons (eK (.int 0)) (aCons (eK (.bl true)) aNil))) aNil)) (aCons (eLst (aCons (eTup (aCons (eK (.int 0)) (aCons (eK (.int 1)) aNil))) aNil)) (aCons (eTup (aCons (eLst (aCons (eK (.int 0)) (aCons (eK (.int 1)) aNil))) aNil)) (aCons (eTup (aCons (eK (.int 1)) (aCons (eK (.int 2)) (aCons (eK (.int 3)) aNil)))) aNil))))))))))) (sRet (eBin oIx (eVar 2) (eApp F__law_take (aCons (eVar 0) (aCons (eK (.int 36)) aNil))))))))
noncomputable def F__law_odd : BF := mkFn 2 3 B__law_odd
noncomputable def B__law_bent : SF := (sSeq (sSet 2 (eApp F__law_take (aCons (eVar 0) (aCons (eK (.int 8)) aNil)))) (sSeq (sIf (tOr2 (tB (eBin oEqU (eVar 1) (eTup aNil))) (tB (eBin oEq (eVar 2) (eK (.int 0))))) (sSeq (sSet 6 (eLst (aCons (eK .non) (aCons (eK (.bl true)) (aCons (eK (.int 0)) (aCons (eK (.str "")) (aCons (eK (.str "lot")) (aCons (eTup aNil) (aCons (eLst aNil) (aCons eDict0 (aCons (eTup (aCons (eK (.str "lot")) aNil)) (aCons (eTup (aCons (eTup (aCons (eK (.str "lot")) aNil)) (aCons (eK .non) aNil))) (aCons (eLst (aCons (eTup (aCons (eK (.str "lot")) aNil)) aNil)) (aCons (eTup (aCons (eTup aNil) aNil)) aNil)))))))))))))) (sRet (eBin oIx (eVar 6) (eApp F__law_take (aCons (eVar 0) (aCons (eK (.int 12)) aNil)))))) sNext) (sSeq (sSet 3 (eApp F__law_take (aCons (eVar 0) (aCons (eApp bLen (aCons (eVar 1) aNil)) aNil)))) (sSeq (sSet 4 (eBin oIx (eVar 1) (eVar 3))) (sSeq (sSet 5 (eApp F__law_take (aCons (eVar 0) (aCons (eApp bLen (aCons (eVar 4) aNil)) aNil)))) (sSeq (sIf (tB (eBin oLt (eVar 2) (eK (.int 4)))) (sSeq (sSet 7 (eBin oAddA (eBin oAddA (eSlA (eVar 4) oNone (oSome (eVar 5))) (eTup (aCons (eApp F__law_odd (aCons (eVar 0) (aCons (eBin oIx (eVar 4) (eVar 5)) aNil))) aNil))) (eSlA (eVar 4) (oSome (eBin oAddA (eVar 5) (eK (.int 1)))) oNone))) (sRet (eBin oAddA (eBin oAddA (eSlA (eVar 1) oNone (oSome (eVar 3))) (eTup (aCons (eVar 7) aNil))) (eSlA (eVar 1) (oSome (eBin oAddA (eVar 3) (eK (.int 1)))) oNone)))) sNext) (sSeq (sIf (tB (eBin oEq (eVar 2) (eK (.int 4)))) (sSeq (sSet 6 (eLst (aCons (eSlA (eVar 4) oNone (oSome (eNeg (eK (.int 1))))) (aCons (eBin oAddA (eVar 4) (eTup (aCons (eK (.int 0)) aNil))) (aCons (eApp bList (aCons (eVar 4) aNil)) (aCons (eBin oIx (eVar 4) (eK (.int 0))) (aCons (eK .non) (aCons (eTup (aCons (eVar 4) aNil)) (aCons (eRevA (eVar 4)) (aCons (eBin oAddA (eVar 4) (eTup (aCons (eK (.str "a")) aNil))) aNil)))))))))) (sRet (eBin oAddA (eBin oAddA (eSlA (eVar 1) oNone (oSome (eVar 3))) (eTup (aCons (eBin oIx (eVar 6) (eApp F__law_take (aCons (eVar 0) (aCons (eK (.int 8)) aNil)))) aNil))) (eSlA (eVar 1) (oSome (eBin oAddA (eVar 3) (eK (.int 1)))) oNone)))) sNext) (sSeq (sIf (tB (eBin oEq (eVar 2) (eK (.int 5)))) (sRet (eBin oIx (eLst (aCons (eBin oMulA (eVar 1) (eK (.int 2))) (aCons (eBin oAddA (eSlA (eVar 1) oNone (oSome (eVar 3))) (eSlA (eVar 1) (oSome (eBin oAddA (eVar 3) (eK (.int 1)))) oNone)) (aCons (eBin oAddA (eSlA (eVar 1) oNone (oSome (eBin oAddA (eVar 3) (eK (.int 1))))) (eSlA (eVar 1) (oSome (eVar 3)) oNone)) (aCons (eApp bList (aCons (eVar 1) aNil)) aNil))))) (eApp F__law_take (aCons (eVar 0) (aCons (eK (.int 4)) aNil))))) sNext) (sRet (eBin oIx (eLst (aCons (eSlA (eBin oMulA (eVar 1) (eK (.int 13))) oNone (oSome (eK (.int 12)))) (aCons (eSlA (eBin oMulA (eVar 1) (eK (.int 13))) oNone (oSome (eK (.int 13)))) (aCons (eTup (aCons (eVar 1) aNil)) aNil)))) (eApp F__law_take (aCons (eVar 0) (aCons (eK (.int 3)) aNil)))))))))))))
noncomputable def F__law_bent : BF := mkFn 2 8 B__law_bent
noncomputable def B_is_tuple_of : SF := (sRet (eAnd2 (eIsi .tup (eVar 0)) (eChain oLe oLe (eVar 1) (eApp bLen (aCons (eVar 0) aNil)) (eVar 2))))
noncomputable def F_is_tuple_of : BF := mkFn 3 3 B_is_tuple_of
noncomputable def B_is_whole : SF := (sRet (eAnd2 (eIsi .int (eVar 0)) (eNot1 (eIsi .bl (eVar 0)))))
noncomputable def F_is_whole : BF := mkFn 1 1 B_is_whole
noncomputable def B_is_below : SF := (sRet (eAnd2 (eApp F_is_whole (aCons (eVar 0) aNil)) (eChain oLe oLt (eK (.int 0)) (eVar 0) (eVar 1))))
noncomputable def F_is_below : BF := mkFn 2 2 B_is_below
noncomputable def B_are_numbers : SF := (sRet (eApp bAll (aCons (eLC (iSeq (eVar 0)) [1] (gSet 1) tTrue (eApp F_is_below (aCons (eVar 1) (aCons (eK c_NUMBERS) aNil)))) aNil)))
noncomputable def F_are_numbers : BF := mkFn 1 2 B_are_numbers
noncomputable def B_are_told_pairs : SF := (sSeq (sIf (tNot1 (tB (eApp F_is_tuple_of (aCons (eVar 0) (aCons (eK (.int 1)) (aCons (eK c_MOST_PAIRS) aNil)))))) (sRet (eK (.bl false))) sNext) (sRet (eApp bAll (aCons (eLC (iSeq (eVar 0)) [1] (gSet 1) tTrue (eAnd2 (eApp F_is_tuple_of (aCons (eVar 1) (aCons (eK (.int 2)) (aCons (eK (.int 2)) aNil)))) (eApp F_are_numbers (aCons (eVar 1) aNil)))) aNil))))
noncomputable def F_are_told_pairs : BF := mkFn 1 2 B_are_told_pairs
noncomputable def B_common_divisor : SF := (sSeq (sSet 0 (eApp bAbs (aCons (eVar 0) aNil))) (sSeq (sSet 1 (eApp bAbs (aCons (eVar 1) aNil))) (sSeq (sWhile (mInt 1) (tB (eBin oNe (eVar 1) (eK (.int 0)))) (sPar 0 1 (aCons (eVar 1) (aCons (eBin oMod (eVar 0) (eVar 1)) aNil)))) (sRet (eVar 0)))))
noncomputable def F_common_divisor : BF := mkFn 2 2 B_common_divisor
noncomputable def B_is_share : SF := (sSeq (sIf (tNot1 (tB (eApp F_is_tuple_of (aCons (eVar 0) (aCons (eK (.int 2)) (aCons (eK (.int 2)) aNil)))))) (sRet (eK (.bl false))) sNext) (sSeq (sAsg (eVar 0) (gSeq 2 (gsCons (gSet 1) (gsCons (gSet 2) gsNil)))) (sSeq (sIf (tOr2 (tNot1 (tB (eApp F_is_whole (aCons (eVar 1) aNil)))) (tNot1 (tB (eApp F_is_whole (aCons (eVar 2) aNil))))) (sRet (eK (.bl false))) sNext) (sRet (eAnd2 (eBin oGe (eVar 2) (eK (.int 1))) (eBin oEq (eApp F_common_divisor (aCons (eVar 1) (aCons (eVar 2) aNil))) (eK (.int 1))))))))
noncomputable def F_is_share : BF := mkFn 1 3 B_is_share
noncomputable def B_is_program_line : SF := (sSeq (sIf (tNot1 (tB (eApp F_is_tuple_of (aCons (eVar 0) (aCons (eK (.int 1)) (aCons (eK (.int 4)) aNil)))))) (sRet (eK (.bl false))) sNext) (sSeq (sSet 1 (eBin oIx (eVar 0) (eK (.int 0)))) (sSeq (sSet 2 (eApp bLen (aCons (eVar 0) aNil))) (sSeq (sIf (tOr2 (tB (eBin oEqS (eVar 1) (eK (.str "weight")))) (tB (eBin oEqS (eVar 1) (eK (.str "lot"))))) (sRet (eBin oEq (eVar 2) (eK (.int 1)))) sNext) (sSeq (sIf (tOr2 (tB (eBin oEqS (eVar 1) (eK (.str "forget")))) (tB (eBin oEqS (eVar 1) (eK (.str "carries"))))) (sRet (eAnd2 (eBin oEq (eVar 2) (eK (.int 3))) (eApp F_are_numbers (aCons (eSlA (eVar 0) (oSome (eK (.int 1))) oNone) aNil)))) sNext) (sSeq (sIf (tB (eBin oEqS (eVar 1) (eK (.str "gap")))) (sRet (eAnd2 (eBin oEq (eVar 2) (eK (.int 3))) (eAnd2 (eApp F_are_numbers (aCons (eSlA (eVar 0) (oSome (eK (.int 1))) (oSome (eK (.int 2)))) aNil)) (eApp F_is_share (aCons (eBin oIx (eVar 0) (eK (.int 2))) aNil))))) sNext) (sRet (eAnd2 (eBin oEqS (eVar 1) (eK (.str "see"))) (eAnd2 (eBin oEq (eVar 2) (eK (.int 4))) (eAnd2 (eApp F_are_numbers (aCons (eSlA (eVar 0) (oSome (eK (.int 1))) (oSome (eK (.int 3)))) aNil)) (eApp F_are_told_pairs (aCons (eBin oIx (eVar 0) (eK (.int 3))) aNil))))))))))))
noncomputable def F_is_program_line : BF := mkFn 1 3 B_is_program_line
noncomputable def B_is_program : SF := (sRet (eAnd2 (eApp F_is_tuple_of (aCons (eVar 0) (aCons (eK (.int 0)) (aCons (eK c_MOST_LINES) aNil)))) (eApp bAll (aCons (eLC (iSeq (eVar 0)) [1] (gSet 1) tTrue (eApp F_is_program_line (aCons (eVar 1) aNil))) aNil))))
noncomputable def F_is_program : BF := mkFn 1 2 B_is_program
noncomputable def B__law_is_number : SF := (sRet (eAnd2 (eIsi .int (eVar 0)) (eAnd2 (eNot1 (eIsi .bl (eVar 0))) (eChain oLe oLe (eK (.int 0)) (eVar 0) (eK (.int 9))))))
noncomputable def F__law_is_number : BF := mkFn 1 1 B__law_is_number
noncomputable def B__law_are_pairs : SF := (sSeq (sIf (tOr2 (tNot1 (tB (eIsi .tup (eVar 0)))) (tNot1 (tB (eChain oLe oLe (eK (.int 1)) (eApp bLen (aCons (eVar 0) aNil)) (eK (.int 9)))))) (sRet (eK (.bl false))) sNext) (sSeq (sFor (iSeq (eVar 0)) (gSet 1) (sSeq (sIf (tOr2 (tNot1 (tB (eIsi .tup (eVar 1)))) (tB (eBin oNe (eApp bLen (aCons (eVar 1) aNil)) (eK (.int 2))))) (sRet (eK (.bl false))) sNext) (sIf (tOr2 (tNot1 (tB (eApp F__law_is_number (aCons (eBin oIx (eVar 1) (eK (.int 0))) aNil)))) (tNot1 (tB (eApp F__law_is_number (aCons (eBin oIx (eVar 1) (eK (.int 1))) aNil))))) (sRet (eK (.bl false))) sNext))) (sRet (eK (.bl true)))))
noncomputable def F__law_are_pairs : BF := mkFn 1 2 B__law_are_pairs
noncomputable def B__law_common : SF := (sSeq (sPar 0 1 (aCons (eApp bAbs (aCons (eVar 0) aNil)) (aCons (eApp bAbs (aCons (eVar 1) aNil)) aNil))) (sSeq (sWhile (mInt 1) (tB (eBin oGt (eVar 1) (eK (.int 0)))) (sPar 0 1 (aCons (eVar 1) (aCons (eBin oMod (eVar 0) (eVar 1)) aNil)))) (sRet (eVar 0))))
noncomputable def F__law_common : BF := mkFn 2 2 B__law_common
noncomputable def B__law_is_share : SF := (sSeq (sIf (tOr2 (tNot1 (tB (eIsi .tup (eVar 0)))) (tB (eBin oNe (eApp bLen (aCons (eVar 0) aNil)) (eK (.int 2))))) (sRet (eK (.bl false))) sNext) (sSeq (sIf (tOr2 (tB (eBin (oEqL true) (eLC (iSeq (eVar 0)) [1] (gSet 1) (tOr2 (tNot1 (tB (eIsi .int (eVar 1)))) (tB (eIsi .bl (eVar 1)))) (eVar 1)) (eLst aNil))) (tB (eBin oLt (eBin oIx (eVar 0) (eK (.int 1))) (eK (.int 1))))) (sRet (eK (.bl false))) sNext) (sRet (eBin oEq (eApp F__law_common (aCons (eBin oIx (eVar 0) (eK (.int 0))) (aCons (eBin oIx (eVar 0) (eK (.int 1))) aNil))) (eK (.int 1))))))
noncomputable def F__law_is_share : BF := mkFn 1 2 B__law_is_share
noncomputable def B__law_is_line : SF := (sSeq (sIf (tOr2 (tNot1 (tB (eIsi .tup (eVar 0)))) (tOr2 (tB (eBin oEqU (eVar 0) (eTup aNil))) (tNot1 (tB (eIsi .str (eBin oIx (eVar 0) (eK (.int 0)))))))) (sRet (eK (.bl false))) sNext) (sSeq (sIf (tB (eBin (oInD false) (eBin oIx (eVar 0) (eK (.int 0))) (eTup (aCons (eK (.str "weight")) (aCons (eK (.str "lot")) aNil))))) (sRet (eBin oEq (eApp bLen (aCons (eVar 0) aNil)) (eK (.int 1)))) sNext) (sSeq (sIf (tB (eBin oEqS (eBin oIx (eVar 0) (eK (.int 0))) (eK (.str "gap")))) (sRet (eAnd2 (eBin oEq (eApp bLen (aCons (eVar 0) aNil)) (eK (.int 3))) (eAnd2 (eApp F__law_is_number (aCons (eBin oIx (eVar 0) (eK (.int 1))) aNil)) (eApp F__law_is_share (aCons (eBin oIx (eVar 0) (eK (.int 2))) aNil))))) sNext) (sSeq (sSet 1 (eGet2 (eDisp (pCons (eK (.str "forget")) (eK (.int 3)) (pCons (eK (.str "carries")) (eK (.int 3)) (pCons (eK (.str "see")) (eK (.int 4)) pNil)))) (eBin oIx (eVar 0) (eK (.int 0))) (eK (.int 0)))) (sSeq (sIf (tOr2 (tB (eBin oNe (eApp bLen (aCons (eVar 0) aNil)) (eVar 1))) (tOr2 (tNot1 (tB (eApp F__law_is_number (aCons (eBin oIx (eVar 0) (eK (.int 1))) aNil)))) (tNot1 (tB (eApp F__law_is_number (aCons (eBin oIx (eVar 0) (eK (.int 2))) aNil)))))) (sRet (eK (.bl false))) sNext) (sRet (eOr2 (eBin oEq (eVar 1) (eK (.int 3))) (eApp F__law_are_pairs (aCons (eBin oIx (eVar 0) (eK (.int 3))) aNil)))))))))
noncomputable def F__law_is_line : BF := mkFn 1 2 B__law_is_line
noncomputable def B__law_due : SF := (sSeq (sIf (tOr2 (tNot1 (tB (eIsi .tup (eVar 0)))) (tB (eBin oGt (eApp bLen (aCons (eVar 0) aNil)) (eK (.int 12))))) (sRet (eK (.bl false))) sNext) (sRet (eBin (oEqL false) (eLC (iSeq (eVar 0)) [1] (gSet 1) (tNot1 (tB (eApp F__law_is_line (aCons (eVar 1) aNil)))) (eVar 1)) (eLst aNil))))
noncomputable def F__law_due : BF := mkFn 1 2 B__law_due
noncomputable def BR_law : SF := (sSeq (sFor (iR1 (aCons (eK (.int 4)) aNil)) (gSet 2) (sSeq (sSet 3 (eApp bTuple (aCons (eLC (iR1 (aCons (eBin oIx (eLst (aCons (eApp F__law_take (aCons (eVar 1) (aCons (eK (.int 6)) aNil))) (aCons (eK (.int 12)) (aCons (eK (.int 13)) (aCons (eK (.int 3)) aNil))))) (eApp F__law_take (aCons (eVar 1) (aCons (eK (.int 4)) aNil)))) aNil)) [8] (gSet 8) tTrue (eApp F__law_line (aCons (eVar 1) aNil))) aNil))) (sSeq (sSet 4 (eBin oAddA (eLst (aCons (eVar 3) aNil)) (eLC (iR1 (aCons (eK (.int 12)) aNil)) [8] (gSet 8) tTrue (eApp F__law_bent (aCons (eVar 1) (aCons (eVar 3) aNil)))))) (sFor (iSeq (eBin oAddA (eVar 4) (eSlA (eVar 4) oNone (oSome (eK (.int 1)))))) (gSet 5) (sSeq (sSet 6 (eApp bReprZ (aCons (eVar 5) aNil))) (sFor (iSeq (eLst (aCons (eApp F_is_program (aCons (eVar 5) aNil)) (aCons (eAppK F_is_program [0] 0 1 aNil (aCons (eVar 5) aNil)) aNil)))) (gSet 7) (sIf (tOr2 (tNot1 (tB (eIsi .bl (eVar 7)))) (tOr2 (tB (eBin oNe (eVar 7) (eApp F__law_due (aCons (eVar 5) aNil)))) (tB (eBin oNe (eApp bReprZ (aCons (eVar 5) aNil)) (eVar 6))))) (sRet (eK (.bl false))) sNext))))))) (sRet (eK (.bl true))))
noncomputable def B_law : SF := (sSeq (sSet 1 (eApp F__law_pen (aCons (eVar 0) aNil))) BR_law)
noncomputable def F_law : BF := mkFn 1 9 B_law
section
variable {P : Program} {w : World} {K : PySem.W.Frag} {mg : Str → Option Value} {base : Heap}
abbrev n__law_pen : List Str := ["_law_script"]
theorem sc__law_pen : FnScope n__law_pen ["_law_script"] (defScope s__law_pen) := ⟨rfl, rfl, rfl, by decide +kernel, rfl, by decide +kernel, by decide +kernel⟩
theorem b__law_pen (K : PySem.W.Frag) : ∀ (kV doc pm : Value) (an : Option Addr) (cdv ct : Value) (us : List Value), us.length = (["_law_script"] : List Str).length → ∀ s : Shared, K.In s.heap → BindsTo s (PySem.W.fnOf "_law_pen" "_law_pen" (defArgs s__law_pen) (defBody s__law_pen) (defScope s__law_pen) .none kV doc pm an cdv ct) ⟨us, []⟩ ((["_law_script"] : List Str).zip us) := fun _ _ _ _ _ _ us hl _ _ => BindsTo.of_eq (match us, hl with | [_], _ => rfl)
theorem ok__law_pen (T : Txt K mg ) (FA : ∃ f fd, mg "_law_pen" = some (.ref f) ∧ FunA K "_law_pen" "_law_pen" s__law_pen .none f fd) : HasFn P w K mg base 1 "_law_pen" s__law_pen .none ["_law_script"] F__law_pen := by
  obtain ⟨f, fd, hm, F⟩ := FA
  refine ⟨⟨f, fd, hm, F, fn_ok F sc__law_pen fun cdv A outer s H E hr => ?_⟩, fun ds h v h' e => mkFn_len e⟩
  have hu := hu_of hr
  have hu64 := hr.units
  have nd := sc__law_pen.nd
  exact (ss_one (ss_ret (se_lst (sa_cons (se_slA (se_var 0 (hv := (Or.inl rfl))) so_none (so_some se_int)) (sa_cons se_int (sa_cons se_int sa_nil))))))
abbrev n__law_take : List Str := ["_law_pen_here", "_law_many", "_law_turn", "_law_cell", "_law_stirred", "_law_digit", "_law_entire"]
theorem sc__law_take : FnScope n__law_take ["_law_pen_here", "_law_many"] (defScope s__law_take) := ⟨rfl, rfl, rfl, by decide +kernel, rfl, by decide +kernel, by decide +kernel⟩
theorem b__law_take (K : PySem.W.Frag) : ∀ (kV doc pm : Value) (an : Option Addr) (cdv ct : Value) (us : List Value), us.length = (["_law_pen_here", "_law_many"] : List Str).length → ∀ s : Shared, K.In s.heap → BindsTo s (PySem.W.fnOf "_law_take" "_law_take" (defArgs s__law_take) (defBody s__law_take) (defScope s__law_take) .none kV doc pm an cdv ct) ⟨us, []⟩ ((["_law_pen_here", "_law_many"] : List Str).zip us) := fun _ _ _ _ _ _ us hl _ _ => BindsTo.of_eq (match us, hl with | [_, _], _ => rfl)
theorem ok__law_take (T : Txt K mg ) (FA : ∃ f fd, mg "_law_take" = some (.ref f) ∧ FunA K "_law_take" "_law_take" s__law_take .none f fd) : HasFn P w K mg base 1 "_law_take" s__law_take .none ["_law_pen_here", "_law_many"] F__law_take := by
  obtain ⟨f, fd, hm, F⟩ := FA
  refine ⟨⟨f, fd, hm, F, fn_ok F sc__law_take fun cdv A outer s H E hr => ?_⟩, fun ds h v h' e => mkFn_len e⟩
  have hu := hu_of hr
  have hu64 := hr.units
  have nd := sc__law_take.nd
  exact (ss_cons (ss_if (st_cmp op_gt sp_gt (se_ix hu (se_var 0 (hv := (Or.inl rfl))) se_int) se_int (nomark _)) (ss_cons (ss_set 5 nd (se_mod (se_ix hu (se_var 0 (hv := (Or.inl rfl))) se_int) (se_var 1 (hv := (Or.inl rfl))))) (ss_cons (ss_put hu (se_var 0 (hv := (Or.inl rfl))) se_int (se_fdiv (se_ix hu (se_var 0 (hv := (Or.inl rfl))) se_int) (se_var 1 (hv := (Or.inl rfl))))) (ss_one (ss_ret (se_var 5 (hv := (Or.inl rfl))))))) ss_nil) (ss_cons (ss_set 2 nd (se_ix hu (se_var 0 (hv := (Or.inl rfl))) se_int)) (ss_cons (ss_put hu (se_var 0 (hv := (Or.inl rfl))) se_int (se_addA (se_var 2 (hv := (Or.inl rfl))) se_int)) (ss_cons (ss_set 3 nd se_int) (ss_cons (ss_if (st_cmp op_gt sp_gt (se_len T.b_len (sa_cons (se_ix hu (se_var 0 (hv := (Or.inl rfl))) se_int) sa_nil)) se_int (nomark _)) (ss_one (ss_set 3 nd (se_ix hu (se_ix hu (se_var 0 (hv := (Or.inl rfl))) se_int) (se_mod (se_var 2 (hv := (Or.inl rfl))) (se_len T.b_len (sa_cons (se_ix hu (se_var 0 (hv := (Or.inl rfl))) se_int) sa_nil)))))) ss_nil) (ss_cons (ss_if (st_w (sw_and (st_cmp op_lt sp_lt (se_var 2 (hv := (Or.inl rfl))) (se_len T.b_len (sa_cons (se_ix hu (se_var 0 (hv := (Or.inl rfl))) se_int) sa_nil)) (nomark _)) (sw_and1 (st_cmp op_ge sp_ge (se_abs T.b_abs (sa_cons (se_var 3 (hv := (Or.inl rfl))) sa_nil)) (se_pow se_int se_int) (nomark _))))) (ss_cons (ss_set 6 nd (se_addA (se_mulA se_int (se_abs T.b_abs (sa_cons (se_var 3 (hv := (Or.inl rfl))) sa_nil))) (se_intc T.b_int (sa_cons (se_cmp op_lt sp_lt (se_var 3 (hv := (Or.inl rfl))) se_int (nomark _)) sa_nil)))) (ss_cons (ss_put hu (se_var 0 (hv := (Or.inl rfl))) se_int (se_fdiv (se_var 6 (hv := (Or.inl rfl))) (se_var 1 (hv := (Or.inl rfl))))) (ss_one (ss_ret (se_mod (se_var 6 (hv := (Or.inl rfl))) (se_var 1 (hv := (Or.inl rfl)))))))) ss_nil) (ss_cons (ss_set 4 nd (se_mod (se_pow (se_addA (se_addA (se_mod (se_var 3 (hv := (Or.inl rfl))) se_int) (se_mulA se_int (se_var 2 (hv := (Or.inl rfl))))) se_int) se_int) se_int)) (ss_cons (ss_set 4 nd (se_mod (se_pow (se_addA (se_mulA (se_var 4 (hv := (Or.inl rfl))) (se_addA (se_var 2 (hv := (Or.inl rfl))) se_int)) (se_mod (se_var 3 (hv := (Or.inl rfl))) se_int)) se_int) se_int)) (ss_one (ss_ret (se_mod (se_fdiv (se_var 4 (hv := (Or.inl rfl))) se_int) (se_var 1 (hv := (Or.inl rfl))))))))))))))
abbrev n__law_line : List Str := ["_law_pen_here", "_law_part", "_law_pairs", "_law_some", "_law_one", "_law_two", "_law_k"]
theorem sc__law_line : FnScope n__law_line ["_law_pen_here"] (defScope s__law_line) := ⟨rfl, rfl, rfl, by decide +kernel, rfl, by decide +kernel, by decide +kernel⟩
theorem b__law_line (K : PySem.W.Frag) : ∀ (kV doc pm : Value) (an : Option Addr) (cdv ct : Value) (us : List Value), us.length = (["_law_pen_here"] : List Str).length → ∀ s : Shared, K.In s.heap → BindsTo s (PySem.W.fnOf "_law_line" "_law_line" (defArgs s__law_line) (defBody s__law_line) (defScope s__law_line) .none kV doc pm an cdv ct) ⟨us, []⟩ ((["_law_pen_here"] : List Str).zip us) := fun _ _ _ _ _ _ us hl _ _ => BindsTo.of_eq (match us, hl with | [_], _ => rfl)
theorem ok__law_line (T : Txt K mg ) (h__law_take : HasFn P w K mg base 1 "_law_take" s__law_take .none ["_law_pen_here", "_law_many"] F__law_take) (FA : ∃ f fd, mg "_law_line" = some (.ref f) ∧ FunA K "_law_line" "_law_line" s__law_line .none f fd) : HasFn P w K mg base 2 "_law_line" s__law_line .none ["_law_pen_here"] F__law_line := by
  obtain ⟨f, fd, hm, F⟩ := FA
  refine ⟨⟨f, fd, hm, F, fn_ok F sc__law_line fun cdv A outer s H E hr => ?_⟩, fun ds h v h' e => mkFn_len e⟩
  have hu := hu_of hr
  have hu64 := hr.units
  have nd := sc__law_line.nd
  exact (ss_cons (ss_par 4 5 rfl nd (sa_cons (se_call (h__law_take.mono (by decide)) hr (sa_cons (se_var 0 (hv := (Or.inr (Or.inl rfl)))) (sa_cons se_int sa_nil)) (b__law_take _)) (sa_cons (se_ix hu (se_lst (sa_cons se_int (sa_cons se_int (sa_cons se_int sa_nil)))) (se_call (h__law_take.mono (by decide)) hr (sa_cons (se_var 0 (hv := (Or.inr (Or.inl rfl)))) (sa_cons se_int sa_nil)) (b__law_take _))) sa_nil))) (ss_cons (ss_set 1 nd (se_ix hu (se_lst (sa_cons (se_tup (sa_cons se_int (sa_cons se_int sa_nil))) (sa_cons (se_tup (sa_cons se_int (sa_cons se_int sa_nil))) (sa_cons (se_tup (sa_cons se_int (sa_cons se_int sa_nil))) (sa_cons (se_tup (sa_cons (se_neg se_int) (sa_cons se_int sa_nil))) (sa_cons (se_tup (sa_cons (se_addA (se_pow se_int se_int) se_int) (sa_cons (se_pow se_int se_int) sa_nil))) sa_nil)))))) (se_call (h__law_take.mono (by decide)) hr (sa_cons (se_var 0 (hv := (Or.inr (Or.inl rfl)))) (sa_cons se_int sa_nil)) (b__law_take _)))) (ss_cons (ss_set 2 nd (se_tuple T.b_tuple (sa_cons (se_lc [("_law_k", 6)] rfl nd (si_r1 T.b_range (sa_cons (se_ix hu (se_lst (sa_cons se_int (sa_cons se_int (sa_cons se_int sa_nil)))) (se_call (h__law_take.mono (by decide)) hr (sa_cons (se_var 0 (hv := (Or.inr (Or.inl rfl)))) (sa_cons se_int sa_nil)) (b__law_take _))) sa_nil)) (blkOk_by (N := n__law_line) (sc := defScope s__law_line) (by decide +kernel)) (fun _ _ _ _ _ => (sg_name 6 nd)) (fun _ _ _ _ _ => sts_nil) (fun _ _ _ _ _ => (se_tup (sa_cons (se_call (h__law_take.mono (by decide)) hr (sa_cons (se_var 0) (sa_cons se_int sa_nil)) (b__law_take _)) (sa_cons (se_call (h__law_take.mono (by decide)) hr (sa_cons (se_var 0) (sa_cons se_int sa_nil)) (b__law_take _)) sa_nil))))) sa_nil))) (ss_cons (ss_set 3 nd (se_lst (sa_cons (se_tup (sa_cons se_str (sa_cons (se_var 4 (hv := (Or.inl rfl))) (sa_cons (se_var 5 (hv := (Or.inl rfl))) (sa_cons (se_var 2 (hv := (Or.inl rfl))) sa_nil))))) (sa_cons (se_tup (sa_cons se_str (sa_cons (se_var 4 (hv := (Or.inl rfl))) (sa_cons (se_var 5 (hv := (Or.inl rfl))) sa_nil)))) (sa_cons (se_tup (sa_cons se_str (sa_cons (se_var 4 (hv := (Or.inl rfl))) (sa_cons (se_var 1 (hv := (Or.inl rfl))) sa_nil)))) (sa_cons (se_tup (sa_cons se_str sa_nil)) (sa_cons (se_tup (sa_cons se_str (sa_cons (se_var 4 (hv := (Or.inl rfl))) (sa_cons (se_var 5 (hv := (Or.inl rfl))) sa_nil)))) sa_nil))))))) (ss_one (ss_ret (se_ix hu (se_addA (se_var 3 (hv := (Or.inl rfl))) (se_lst (sa_cons (se_tup (sa_cons se_str sa_nil)) sa_nil))) (se_call (h__law_take.mono (by decide)) hr (sa_cons (se_var 0 (hv := (Or.inr (Or.inl rfl)))) (sa_cons se_int sa_nil)) (b__law_take _)))))))))
abbrev n__law_odd : List Str := ["_law_pen_here", "_law_one", "_law_some"]
theorem sc__law_odd : FnScope n__law_odd ["_law_pen_here", "_law_one"] (defScope s__law_odd) := ⟨rfl, rfl, rfl, by decide +kernel, rfl, by decide +kernel, by decide +kernel⟩
theorem b__law_odd (K : PySem.W.Frag) : ∀ (kV doc pm : Value) (an : Option Addr) (cdv ct : Value) (us : List Value), us.length = (["_law_pen_here", "_law_one"] : List Str).length → ∀ s : Shared, K.In s.heap → BindsTo s (PySem.W.fnOf "_law_odd" "_law_odd" (defArgs s__law_odd) (defBody s__law_odd) (defScope s__law_odd) .none kV doc pm an cdv ct) ⟨us, []⟩ ((["_law_pen_here", "_law_one"] : List Str).zip us) := fun _ _ _ _ _ _ us hl _ _ => BindsTo.of_eq (match us, hl with | [_, _], _ => rfl)
theorem ok__law_odd (T : Txt K mg ) (h__law_take : HasFn P w K mg base 1 "_law_take" s__law_take .none ["_law_pen_here", "_law_many"] F__law_take) (FA : ∃ f fd, mg "_law_odd" = some (.ref f) ∧ FunA K "_law_odd" "_law_odd" s__law_odd .none f fd) : HasFn P w K mg base 2 "_law_odd" s__law_odd .none ["_law_pen_here", "_law_one"] F__law_odd := by
  obtain ⟨f, fd, hm, F⟩ := FA
  refine ⟨⟨f, fd, hm, F, fn_ok F sc__law_odd fun cdv A outer s H E hr => ?_⟩, fun ds h v h' e => mkFn_len e⟩
  have hu := hu_of hr
  have hu64 := hr.units
  have nd := sc__law_odd.nd
  exact (ss_cons (ss_set 2 nd (se_lst (sa_cons se_non (sa_cons se_bl (sa_cons se_bl (sa_cons (se_neg se_int) (sa_cons se_int (sa_cons se_int (sa_cons se_int (sa_cons (se_pow se_int se_int) (sa_cons se_str (sa_cons se_str (sa_cons se_str (sa_cons se_str (sa_cons se_str (sa_cons se_str (sa_cons se_str (sa_cons se_str sa_nil)))))))))))))))))) (ss_cons (ss_set 2 nd (se_addA (se_var 2 (hv := (Or.inl rfl))) (se_lst (sa_cons (se_tup sa_nil) (sa_cons (se_lst sa_nil) (sa_cons se_dict0 (sa_cons (se_tup (sa_cons se_int (sa_cons se_int sa_nil))) (sa_cons (se_tup (sa_cons se_int (sa_cons se_int sa_nil))) (sa_cons (se_tup (sa_cons se_int (sa_cons se_int sa_nil))) (sa_cons (se_tup (sa_cons se_int (sa_cons se_int sa_nil))) (sa_cons (se_tup (sa_cons se_int (sa_cons (se_neg se_int) sa_nil))) (sa_cons (se_tup (sa_cons se_bl (sa_cons se_int sa_nil))) (sa_cons (se_tup (sa_cons (se_tup (sa_cons se_int (sa_cons se_int sa_nil))) sa_nil)) (sa_cons (se_tup (sa_cons (se_tup (sa_cons se_int (sa_cons se_int (sa_cons se_int sa_nil)))) sa_nil)) (sa_cons (se_lst (sa_cons (se_var 1 (hv := (Or.inl rfl))) sa_nil)) sa_nil))))))))))))))) (ss_cons (ss_set 2 nd (se_addA (se_var 2 (hv := (Or.inl rfl))) (se_lst (sa_cons (se_tup (sa_cons (se_var 1 (hv := (Or.inl rfl))) sa_nil)) (sa_cons (se_mulA (se_tup (sa_cons (se_tup (sa_cons se_int (sa_cons se_int sa_nil))) sa_nil)) se_int) (sa_cons (se_mulA (se_tup (sa_cons (se_tup (sa_cons se_int (sa_cons se_int sa_nil))) sa_nil)) se_int) (sa_cons (se_tup (sa_cons (se_tup (sa_cons se_int (sa_cons se_int sa_nil))) sa_nil)) (sa_cons (se_tup (sa_cons (se_tup (sa_cons se_int (sa_cons se_bl sa_nil))) sa_nil)) (sa_cons (se_lst (sa_cons (se_tup (sa_cons se_int (sa_cons se_int sa_nil))) sa_nil)) (sa_cons (se_tup (sa_cons (se_lst (sa_cons se_int (sa_cons se_int sa_nil))) sa_nil)) (sa_cons (se_tup (sa_cons se_int (sa_cons se_int (sa_cons se_int sa_nil)))) sa_nil))))))))))) (ss_one (ss_ret (se_ix hu (se_var 2 (hv := (Or.inl rfl))) (se_call (h__law_take.mono (by decide)) hr (sa_cons (se_var 0 (hv := (Or.inl rfl))) (sa_cons se_int sa_nil)) (b__law_take _))))))))
abbrev n__law_bent : List Str := ["_law_pen_here", "_law_lines", "_law_way", "_law_at", "_law_line_here", "_law_spot", "_law_some", "_law_bent_here"]
theorem sc__law_bent : FnScope n__law_bent ["_law_pen_here", "_law_lines"] (defScope s__law_bent) := ⟨rfl, rfl, rfl, by decide +kernel, rfl, by decide +kernel, by decide +kernel⟩
theorem b__law_bent (K : PySem.W.Frag) : ∀ (kV doc pm : Value) (an : Option Addr) (cdv ct : Value) (us : List Value), us.length = (["_law_pen_here", "_law_lines"] : List Str).length → ∀ s : Shared, K.In s.heap → BindsTo s (PySem.W.fnOf "_law_bent" "_law_bent" (defArgs s__law_bent) (defBody s__law_bent) (defScope s__law_bent) .none kV doc pm an cdv ct) ⟨us, []⟩ ((["_law_pen_here", "_law_lines"] : List Str).zip us) := fun _ _ _ _ _ _ us hl _ _ => BindsTo.of_eq (match us, hl with | [_, _], _ => rfl)
theorem ok__law_bent (T : Txt K mg ) (h__law_take : HasFn P w K mg base 1 "_law_take" s__law_take .none ["_law_pen_here", "_law_many"] F__law_take) (h__law_odd : HasFn P w K mg base 2 "_law_odd" s__law_odd .none ["_law_pen_here", "_law_one"] F__law_odd) (FA : ∃ f fd, mg "_law_bent" = some (.ref f) ∧ FunA K "_law_bent" "_law_bent" s__law_bent .none f fd) : HasFn P w K mg base 3 "_law_bent" s__law_bent .none ["_law_pen_here", "_law_lines"] F__law_bent := by
  obtain ⟨f, fd, hm, F⟩ := FA
  refine ⟨⟨f, fd, hm, F, fn_ok F sc__law_bent fun cdv A outer s H E hr => ?_⟩, fun ds h v h' e => mkFn_len e⟩
  have hu := hu_of hr
  have hu64 := hr.units
  have nd := sc__law_bent.nd
  exact (ss_cons (ss_set 2 nd (se_call (h__law_take.mono (by decide)) hr (sa_cons (se_var 0 (hv := (Or.inl rfl))) (sa_cons se_int sa_nil)) (b__law_take _))) (ss_cons (ss_if (st_w (sw_or (st_cmp (op_eqU hu64) sp_eqU (se_var 1 (hv := (Or.inl rfl))) (se_tup sa_nil) (nomark _)) (sw_or1 (st_cmp (op_eqA hu64) sp_eq (se_var 2 (hv := (Or.inl rfl))) se_int (nomark _))))) (ss_cons (ss_set 6 nd (se_lst (sa_cons se_non (sa_cons se_bl (sa_cons se_int (sa_cons se_str (sa_cons se_str (sa_cons (se_tup sa_nil) (sa_cons (se_lst sa_nil) (sa_cons se_dict0 (sa_cons (se_tup (sa_cons se_str sa_nil)) (sa_cons (se_tup (sa_cons (se_tup (sa_cons se_str sa_nil)) (sa_cons se_non sa_nil))) (sa_cons (se_lst (sa_cons (se_tup (sa_cons se_str sa_nil)) sa_nil)) (sa_cons (se_tup (sa_cons (se_tup sa_nil) sa_nil)) sa_nil)))))))))))))) (ss_one (ss_ret (se_ix hu (se_var 6 (hv := (Or.inl rfl))) (se_call (h__law_take.mono (by decide)) hr (sa_cons (se_var 0 (hv := (Or.inl rfl))) (sa_cons se_int sa_nil)) (b__law_take _)))))) ss_nil) (ss_cons (ss_set 3 nd (se_call (h__law_take.mono (by decide)) hr (sa_cons (se_var 0 (hv := (Or.inl rfl))) (sa_cons (se_len T.b_len (sa_cons (se_var 1 (hv := (Or.inl rfl))) sa_nil)) sa_nil)) (b__law_take _))) (ss_cons (ss_set 4 nd (se_ix hu (se_var 1 (hv := (Or.inl rfl))) (se_var 3 (hv := (Or.inl rfl))))) (ss_cons (ss_set 5 nd (se_call (h__law_take.mono (by decide)) hr (sa_cons (se_var 0 (hv := (Or.inl rfl))) (sa_cons (se_len T.b_len (sa_cons (se_var 4 (hv := (Or.inl rfl))) sa_nil)) sa_nil)) (b__law_take _))) (ss_cons (ss_if (st_cmp op_lt sp_lt (se_var 2 (hv := (Or.inl rfl))) se_int (nomark _)) (ss_cons (ss_set 7 nd (se_addA (se_addA (se_slA (se_var 4 (hv := (Or.inl rfl))) so_none (so_some (se_var 5 (hv := (Or.inl rfl))))) (se_tup (sa_cons (se_call (h__law_odd.mono (by decide)) hr (sa_cons (se_var 0 (hv := (Or.inl rfl))) (sa_cons (se_ix hu (se_var 4 (hv := (Or.inl rfl))) (se_var 5 (hv := (Or.inl rfl)))) sa_nil)) (b__law_odd _)) sa_nil))) (se_slA (se_var 4 (hv := (Or.inl rfl))) (so_some (se_addA (se_var 5 (hv := (Or.inl rfl))) se_int)) so_none))) (ss_one (ss_ret (se_addA (se_addA (se_slA (se_var 1 (hv := (Or.inl rfl))) so_none (so_some (se_var 3 (hv := (Or.inl rfl))))) (se_tup (sa_cons (se_var 7 (hv := (Or.inl rfl))) sa_nil))) (se_slA (se_var 1 (hv := (Or.inl rfl))) (so_some (se_addA (se_var 3 (hv := (Or.inl rfl))) se_int)) so_none))))) ss_nil) (ss_cons (ss_if (st_cmp (op_eqA hu64) sp_eq (se_var 2 (hv := (Or.inl rfl))) se_int (nomark _)) (ss_cons (ss_set 6 nd (se_lst (sa_cons (se_slA (se_var 4 (hv := (Or.inl rfl))) so_none (so_some (se_neg se_int))) (sa_cons (se_addA (se_var 4 (hv := (Or.inl rfl))) (se_tup (sa_cons se_int sa_nil))) (sa_cons (se_list T.b_list (sa_cons (se_var 4 (hv := (Or.inl rfl))) sa_nil)) (sa_cons (se_ix hu (se_var 4 (hv := (Or.inl rfl))) se_int) (sa_cons se_non (sa_cons (se_tup (sa_cons (se_var 4 (hv := (Or.inl rfl))) sa_nil)) (sa_cons (se_revA (se_var 4 (hv := (Or.inl rfl)))) (sa_cons (se_addA (se_var 4 (hv := (Or.inl rfl))) (se_tup (sa_cons se_str sa_nil))) sa_nil)))))))))) (ss_one (ss_ret (se_addA (se_addA (se_slA (se_var 1 (hv := (Or.inl rfl))) so_none (so_some (se_var 3 (hv := (Or.inl rfl))))) (se_tup (sa_cons (se_ix hu (se_var 6 (hv := (Or.inl rfl))) (se_call (h__law_take.mono (by decide)) hr (sa_cons (se_var 0 (hv := (Or.inl rfl))) (sa_cons se_int sa_nil)) (b__law_take _))) sa_nil))) (se_slA (se_var 1 (hv := (Or.inl rfl))) (so_some (se_addA (se_var 3 (hv := (Or.inl rfl))) se_int)) so_none))))) ss_nil) (ss_cons (ss_if (st_cmp (op_eqA hu64) sp_eq (se_var 2 (hv := (Or.inl rfl))) se_int (nomark _)) (ss_one (ss_ret (se_ix hu (se_lst (sa_cons (se_mulA (se_var 1 (hv := (Or.inl rfl))) se_int) (sa_cons (se_addA (se_slA (se_var 1 (hv := (Or.inl rfl))) so_none (so_some (se_var 3 (hv := (Or.inl rfl))))) (se_slA (se_var 1 (hv := (Or.inl rfl))) (so_some (se_addA (se_var 3 (hv := (Or.inl rfl))) se_int)) so_none)) (sa_cons (se_addA (se_slA (se_var 1 (hv := (Or.inl rfl))) so_none (so_some (se_addA (se_var 3 (hv := (Or.inl rfl))) se_int))) (se_slA (se_var 1 (hv := (Or.inl rfl))) (so_some (se_var 3 (hv := (Or.inl rfl)))) so_none)) (sa_cons (se_list T.b_list (sa_cons (se_var 1 (hv := (Or.inl rfl))) sa_nil)) sa_nil))))) (se_call (h__law_take.mono (by decide)) hr (sa_cons (se_var 0 (hv := (Or.inl rfl))) (sa_cons se_int sa_nil)) (b__law_take _))))) ss_nil) (ss_one (ss_ret (se_ix hu (se_lst (sa_cons (se_slA (se_mulA (se_var 1 (hv := (Or.inl rfl))) se_int) so_none (so_some se_int)) (sa_cons (se_slA (se_mulA (se_var 1 (hv := (Or.inl rfl))) se_int) so_none (so_some se_int)) (sa_cons (se_tup (sa_cons (se_var 1 (hv := (Or.inl rfl))) sa_nil)) sa_nil)))) (se_call (h__law_take.mono (by decide)) hr (sa_cons (se_var 0 (hv := (Or.inl rfl))) (sa_cons se_int sa_nil)) (b__law_take _)))))))))))))
abbrev n_is_tuple_of : List Str := ["thing", "least", "most"]
theorem sc_is_tuple_of : FnScope n_is_tuple_of ["thing", "least", "most"] (defScope s_is_tuple_of) := ⟨rfl, rfl, rfl, by decide +kernel, rfl, by decide +kernel, by decide +kernel⟩
theorem b_is_tuple_of (K : PySem.W.Frag) : ∀ (kV doc pm : Value) (an : Option Addr) (cdv ct : Value) (us : List Value), us.length = (["thing", "least", "most"] : List Str).length → ∀ s : Shared, K.In s.heap → BindsTo s (PySem.W.fnOf "is_tuple_of" "is_tuple_of" (defArgs s_is_tuple_of) (defBody s_is_tuple_of) (defScope s_is_tuple_of) .none kV doc pm an cdv ct) ⟨us, []⟩ ((["thing", "least", "most"] : List Str).zip us) := fun _ _ _ _ _ _ us hl _ _ => BindsTo.of_eq (match us, hl with | [_, _, _], _ => rfl)
theorem ok_is_tuple_of (T : Txt K mg ) (FA : ∃ f fd, mg "is_tuple_of" = some (.ref f) ∧ FunA K "is_tuple_of" "is_tuple_of" s_is_tuple_of .none f fd) : HasFn P w K mg base 1 "is_tuple_of" s_is_tuple_of .none ["thing", "least", "most"] F_is_tuple_of := by
  obtain ⟨f, fd, hm, F⟩ := FA
  refine ⟨⟨f, fd, hm, F, fn_ok F sc_is_tuple_of fun cdv A outer s H E hr => ?_⟩, fun ds h v h' e => mkFn_len e⟩
  have hu := hu_of hr
  have hu64 := hr.units
  have nd := sc_is_tuple_of.nd
  exact (ss_one (ss_ret (se_and (se_isi .tup T.b_isinstance T.b_tuple (se_var 0 (hv := (Or.inl rfl)))) (se_one (se_chain op_le sp_le op_le sp_le (se_var 1 (hv := (Or.inl rfl))) (se_len T.b_len (sa_cons (se_var 0 (hv := (Or.inl rfl))) sa_nil)) (se_var 2 (hv := (Or.inl rfl))))))))
abbrev n_is_whole : List Str := ["thing"]
theorem sc_is_whole : FnScope n_is_whole ["thing"] (defScope s_is_whole) := ⟨rfl, rfl, rfl, by decide +kernel, rfl, by decide +kernel, by decide +kernel⟩
theorem b_is_whole (K : PySem.W.Frag) : ∀ (kV doc pm : Value) (an : Option Addr) (cdv ct : Value) (us : List Value), us.length = (["thing"] : List Str).length → ∀ s : Shared, K.In s.heap → BindsTo s (PySem.W.fnOf "is_whole" "is_whole" (defArgs s_is_whole) (defBody s_is_whole) (defScope s_is_whole) .none kV doc pm an cdv ct) ⟨us, []⟩ ((["thing"] : List Str).zip us) := fun _ _ _ _ _ _ us hl _ _ => BindsTo.of_eq (match us, hl with | [_], _ => rfl)
theorem ok_is_whole (T : Txt K mg ) (FA : ∃ f fd, mg "is_whole" = some (.ref f) ∧ FunA K "is_whole" "is_whole" s_is_whole .none f fd) : HasFn P w K mg base 1 "is_whole" s_is_whole .none ["thing"] F_is_whole := by
  obtain ⟨f, fd, hm, F⟩ := FA
  refine ⟨⟨f, fd, hm, F, fn_ok F sc_is_whole fun cdv A outer s H E hr => ?_⟩, fun ds h v h' e => mkFn_len e⟩
  have hu := hu_of hr
  have hu64 := hr.units
  have nd := sc_is_whole.nd
  exact (ss_one (ss_ret (se_and (se_isi .int T.b_isinstance T.b_int (se_var 0 (hv := (Or.inl rfl)))) (se_one (se_not (se_isi .bl T.b_isinstance T.b_bool (se_var 0 (hv := (Or.inl rfl)))))))))
abbrev n_is_below : List Str := ["thing", "limit"]
theorem sc_is_below : FnScope n_is_below ["thing", "limit"] (defScope s_is_below) := ⟨rfl, rfl, rfl, by decide +kernel, rfl, by decide +kernel, by decide +kernel⟩
theorem b_is_below (K : PySem.W.Frag) : ∀ (kV doc pm : Value) (an : Option Addr) (cdv ct : Value) (us : List Value), us.length = (["thing", "limit"] : List Str).length → ∀ s : Shared, K.In s.heap → BindsTo s (PySem.W.fnOf "is_below" "is_below" (defArgs s_is_below) (defBody s_is_below) (defScope s_is_below) .none kV doc pm an cdv ct) ⟨us, []⟩ ((["thing", "limit"] : List Str).zip us) := fun _ _ _ _ _ _ us hl _ _ => BindsTo.of_eq (match us, hl with | [_, _], _ => rfl)
theorem ok_is_below (T : Txt K mg ) (h_is_whole : HasFn P w K mg base 1 "is_whole" s_is_whole .none ["thing"] F_is_whole) (FA : ∃ f fd, mg "is_below" = some (.ref f) ∧ FunA K "is_below" "is_below" s_is_below .none f fd) : HasFn P w K mg base 2 "is_below" s_is_below .none ["thing", "limit"] F_is_below := by
  obtain ⟨f, fd, hm, F⟩ := FA
  refine ⟨⟨f, fd, hm, F, fn_ok F sc_is_below fun cdv A outer s H E hr => ?_⟩, fun ds h v h' e => mkFn_len e⟩
  have hu := hu_of hr
  have hu64 := hr.units
  have nd := sc_is_below.nd
  exact (ss_one (ss_ret (se_and (se_call (h_is_whole.mono (by decide)) hr (sa_cons (se_var 0 (hv := (Or.inl rfl))) sa_nil) (b_is_whole _)) (se_one (se_chain op_le sp_le op_lt sp_lt se_int (se_var 0 (hv := (Or.inl rfl))) (se_var 1 (hv := (Or.inl rfl))))))))
abbrev n_are_numbers : List Str := ["things", "thing"]
theorem sc_are_numbers : FnScope n_are_numbers ["things"] (defScope s_are_numbers) := ⟨rfl, rfl, rfl, by decide +kernel, rfl, by decide +kernel, by decide +kernel⟩
theorem b_are_numbers (K : PySem.W.Frag) : ∀ (kV doc pm : Value) (an : Option Addr) (cdv ct : Value) (us : List Value), us.length = (["things"] : List Str).length → ∀ s : Shared, K.In s.heap → BindsTo s (PySem.W.fnOf "are_numbers" "are_numbers" (defArgs s_are_numbers) (defBody s_are_numbers) (defScope s_are_numbers) .none kV doc pm an cdv ct) ⟨us, []⟩ ((["things"] : List Str).zip us) := fun _ _ _ _ _ _ us hl _ _ => BindsTo.of_eq (match us, hl with | [_], _ => rfl)
theorem ok_are_numbers (T : Txt K mg ) (h_is_below : HasFn P w K mg base 2 "is_below" s_is_below .none ["thing", "limit"] F_is_below) (FA : ∃ f fd, mg "are_numbers" = some (.ref f) ∧ FunA K "are_numbers" "are_numbers" s_are_numbers .none f fd) : HasFn P w K mg base 3 "are_numbers" s_are_numbers .none ["things"] F_are_numbers := by
  obtain ⟨f, fd, hm, F⟩ := FA
  refine ⟨⟨f, fd, hm, F, fn_ok F sc_are_numbers fun cdv A outer s H E hr => ?_⟩, fun ds h v h' e => mkFn_len e⟩
  have hu := hu_of hr
  have hu64 := hr.units
  have nd := sc_are_numbers.nd
  exact (ss_one (ss_ret (se_all rfl T.b_all (sa_cons (se_lc [("thing", 1)] rfl nd (si_seq (se_var 0 (hv := (Or.inl rfl)))) (blkOk_by (N := n_are_numbers) (sc := defScope s_are_numbers) (by decide +kernel)) (fun _ _ _ _ _ => (sg_name 1 nd)) (fun _ _ _ _ _ => sts_nil) (fun _ _ _ _ _ => (se_call (h_is_below.mono (by decide)) hr (sa_cons (se_var 1) (sa_cons (se_globE rfl T.u_NUMBERS) sa_nil)) (b_is_below _)))) sa_nil))))
abbrev n_are_told_pairs : List Str := ["thing", "pair"]
theorem sc_are_told_pairs : FnScope n_are_told_pairs ["thing"] (defScope s_are_told_pairs) := ⟨rfl, rfl, rfl, by decide +kernel, rfl, by decide +kernel, by decide +kernel⟩
theorem b_are_told_pairs (K : PySem.W.Frag) : ∀ (kV doc pm : Value) (an : Option Addr) (cdv ct : Value) (us : List Value), us.length = (["thing"] : List Str).length → ∀ s : Shared, K.In s.heap → BindsTo s (PySem.W.fnOf "are_told_pairs" "are_told_pairs" (defArgs s_are_told_pairs) (defBody s_are_told_pairs) (defScope s_are_told_pairs) .none kV doc pm an cdv ct) ⟨us, []⟩ ((["thing"] : List Str).zip us) := fun _ _ _ _ _ _ us hl _ _ => BindsTo.of_eq (match us, hl with | [_], _ => rfl)
theorem ok_are_told_pairs (T : Txt K mg ) (h_is_tuple_of : HasFn P w K mg base 1 "is_tuple_of" s_is_tuple_of .none ["thing", "least", "most"] F_is_tuple_of) (h_are_numbers : HasFn P w K mg base 3 "are_numbers" s_are_numbers .none ["things"] F_are_numbers) (FA : ∃ f fd, mg "are_told_pairs" = some (.ref f) ∧ FunA K "are_told_pairs" "are_told_pairs" s_are_told_pairs .none f fd) : HasFn P w K mg base 4 "are_told_pairs" s_are_told_pairs .none ["thing"] F_are_told_pairs := by
  obtain ⟨f, fd, hm, F⟩ := FA
  refine ⟨⟨f, fd, hm, F, fn_ok F sc_are_told_pairs fun cdv A outer s H E hr => ?_⟩, fun ds h v h' e => mkFn_len e⟩
  have hu := hu_of hr
  have hu64 := hr.units
  have nd := sc_are_told_pairs.nd
  exact (ss_cons (ss_if (st_not (st_val (se_call (h_is_tuple_of.mono (by decide)) hr (sa_cons (se_var 0 (hv := (Or.inl rfl))) (sa_cons se_int (sa_cons (se_globE rfl T.u_MOST_PAIRS) sa_nil))) (b_is_tuple_of _)))) (ss_one (ss_ret se_bl)) ss_nil) (ss_one (ss_ret (se_all rfl T.b_all (sa_cons (se_lc [("pair", 1)] rfl nd (si_seq (se_var 0 (hv := (Or.inl rfl)))) (blkOk_by (N := n_are_told_pairs) (sc := defScope s_are_told_pairs) (by decide +kernel)) (fun _ _ _ _ _ => (sg_name 1 nd)) (fun _ _ _ _ _ => sts_nil) (fun _ _ _ _ _ => (se_and (se_call (h_is_tuple_of.mono (by decide)) hr (sa_cons (se_var 1) (sa_cons se_int (sa_cons se_int sa_nil))) (b_is_tuple_of _)) (se_one (se_call (h_are_numbers.mono (by decide)) hr (sa_cons (se_var 1) sa_nil) (b_are_numbers _)))))) sa_nil)))))
abbrev n_common_divisor : List Str := ["number", "other"]
theorem sc_common_divisor : FnScope n_common_divisor ["number", "other"] (defScope s_common_divisor) := ⟨rfl, rfl, rfl, by decide +kernel, rfl, by decide +kernel, by decide +kernel⟩
theorem b_common_divisor (K : PySem.W.Frag) : ∀ (kV doc pm : Value) (an : Option Addr) (cdv ct : Value) (us : List Value), us.length = (["number", "other"] : List Str).length → ∀ s : Shared, K.In s.heap → BindsTo s (PySem.W.fnOf "common_divisor" "common_divisor" (defArgs s_common_divisor) (defBody s_common_divisor) (defScope s_common_divisor) .none kV doc pm an cdv ct) ⟨us, []⟩ ((["number", "other"] : List Str).zip us) := fun _ _ _ _ _ _ us hl _ _ => BindsTo.of_eq (match us, hl with | [_, _], _ => rfl)
theorem ok_common_divisor (T : Txt K mg ) (FA : ∃ f fd, mg "common_divisor" = some (.ref f) ∧ FunA K "common_divisor" "common_divisor" s_common_divisor .none f fd) : HasFn P w K mg base 1 "common_divisor" s_common_divisor .none ["number", "other"] F_common_divisor := by
  obtain ⟨f, fd, hm, F⟩ := FA
  refine ⟨⟨f, fd, hm, F, fn_ok F sc_common_divisor fun cdv A outer s H E hr => ?_⟩, fun ds h v h' e => mkFn_len e⟩
  have hu := hu_of hr
  have hu64 := hr.units
  have nd := sc_common_divisor.nd
  exact (ss_cons (ss_set 0 nd (se_abs T.b_abs (sa_cons (se_var 0 (hv := (Or.inl rfl))) sa_nil))) (ss_cons (ss_set 1 nd (se_abs T.b_abs (sa_cons (se_var 1 (hv := (Or.inl rfl))) sa_nil))) (ss_cons (ss_while (mInt 1) (st_cmp (op_neA hu64) sp_ne (se_var 1 (hv := (Or.inl rfl))) se_int (nomark _)) (ss_one (ss_par 0 1 rfl nd (sa_cons (se_var 1 (hv := (Or.inl rfl))) (sa_cons (se_mod (se_var 0 (hv := (Or.inl rfl))) (se_var 1 (hv := (Or.inl rfl)))) sa_nil))))) (ss_one (ss_ret (se_var 0 (hv := (Or.inl rfl))))))))
abbrev n_is_share : List Str := ["thing", "top", "bottom"]
theorem sc_is_share : FnScope n_is_share ["thing"] (defScope s_is_share) := ⟨rfl, rfl, rfl, by decide +kernel, rfl, by decide +kernel, by decide +kernel⟩
theorem b_is_share (K : PySem.W.Frag) : ∀ (kV doc pm : Value) (an : Option Addr) (cdv ct : Value) (us : List Value), us.length = (["thing"] : List Str).length → ∀ s : Shared, K.In s.heap → BindsTo s (PySem.W.fnOf "is_share" "is_share" (defArgs s_is_share) (defBody s_is_share) (defScope s_is_share) .none kV doc pm an cdv ct) ⟨us, []⟩ ((["thing"] : List Str).zip us) := fun _ _ _ _ _ _ us hl _ _ => BindsTo.of_eq (match us, hl with | [_], _ => rfl)
theorem ok_is_share (T : Txt K mg ) (h_is_tuple_of : HasFn P w K mg base 1 "is_tuple_of" s_is_tuple_of .none ["thing", "least", "most"] F_is_tuple_of) (h_is_whole : HasFn P w K mg base 1 "is_whole" s_is_whole .none ["thing"] F_is_whole) (h_common_divisor : HasFn P w K mg base 1 "common_divisor" s_common_divisor .none ["number", "other"] F_common_divisor) (FA : ∃ f fd, mg "is_share" = some (.ref f) ∧ FunA K "is_share" "is_share" s_is_share .none f fd) : HasFn P w K mg base 2 "is_share" s_is_share .none ["thing"] F_is_share := by
  obtain ⟨f, fd, hm, F⟩ := FA
  refine ⟨⟨f, fd, hm, F, fn_ok F sc_is_share fun cdv A outer s H E hr => ?_⟩, fun ds h v h' e => mkFn_len e⟩
  have hu := hu_of hr
  have hu64 := hr.units
  have nd := sc_is_share.nd
  exact (ss_cons (ss_if (st_not (st_val (se_call (h_is_tuple_of.mono (by decide)) hr (sa_cons (se_var 0 (hv := (Or.inl rfl))) (sa_cons se_int (sa_cons se_int sa_nil))) (b_is_tuple_of _)))) (ss_one (ss_ret se_bl)) ss_nil) (ss_cons (ss_asg (se_var 0 (hv := (Or.inl rfl))) (sg_seq rfl (sgs_cons (sg_name 1 nd) (sgs_cons (sg_name 2 nd) sgs_nil)))) (ss_cons (ss_if (st_w (sw_or (st_not (st_val (se_call (h_is_whole.mono (by decide)) hr (sa_cons (se_var 1 (hv := (Or.inl rfl))) sa_nil) (b_is_whole _)))) (sw_or1 (st_not (st_val (se_call (h_is_whole.mono (by decide)) hr (sa_cons (se_var 2 (hv := (Or.inl rfl))) sa_nil) (b_is_whole _))))))) (ss_one (ss_ret se_bl)) ss_nil) (ss_one (ss_ret (se_and (se_cmp op_ge sp_ge (se_var 2 (hv := (Or.inl rfl))) se_int (nomark _)) (se_one (se_cmp (op_eqA hu64) sp_eq (se_call (h_common_divisor.mono (by decide)) hr (sa_cons (se_var 1 (hv := (Or.inl rfl))) (sa_cons (se_var 2 (hv := (Or.inl rfl))) sa_nil)) (b_common_divisor _)) se_int (nomark _)))))))))
abbrev n_is_program_line : List Str := ["thing", "word", "many"]
theorem sc_is_program_line : FnScope n_is_program_line ["thing"] (defScope s_is_program_line) := ⟨rfl, rfl, rfl, by decide +kernel, rfl, by decide +kernel, by decide +kernel⟩
theorem b_is_program_line (K : PySem.W.Frag) : ∀ (kV doc pm : Value) (an : Option Addr) (cdv ct : Value) (us : List Value), us.length = (["thing"] : List Str).length → ∀ s : Shared, K.In s.heap → BindsTo s (PySem.W.fnOf "is_program_line" "is_program_line" (defArgs s_is_program_line) (defBody s_is_program_line) (defScope s_is_program_line) .none kV doc pm an cdv ct) ⟨us, []⟩ ((["thing"] : List Str).zip us) := fun _ _ _ _ _ _ us hl _ _ => BindsTo.of_eq (match us, hl with | [_], _ => rfl)
theorem ok_is_program_line (T : Txt K mg ) (h_is_tuple_of : HasFn P w K mg base 1 "is_tuple_of" s_is_tuple_of .none ["thing", "least", "most"] F_is_tuple_of) (h_are_numbers : HasFn P w K mg base 3 "are_numbers" s_are_numbers .none ["things"] F_are_numbers) (h_is_share : HasFn P w K mg base 2 "is_share" s_is_share .none ["thing"] F_is_share) (h_are_told_pairs : HasFn P w K mg base 4 "are_told_pairs" s_are_told_pairs .none ["thing"] F_are_told_pairs) (FA : ∃ f fd, mg "is_program_line" = some (.ref f) ∧ FunA K "is_program_line" "is_program_line" s_is_program_line .none f fd) : HasFn P w K mg base 5 "is_program_line" s_is_program_line .none ["thing"] F_is_program_line := by
  obtain ⟨f, fd, hm, F⟩ := FA
  refine ⟨⟨f, fd, hm, F, fn_ok F sc_is_program_line fun cdv A outer s H E hr => ?_⟩, fun ds h v h' e => mkFn_len e⟩
  have hu := hu_of hr
  have hu64 := hr.units
  have nd := sc_is_program_line.nd
  exact (ss_cons (ss_if (st_not (st_val (se_call (h_is_tuple_of.mono (by decide)) hr (sa_cons (se_var 0 (hv := (Or.inl rfl))) (sa_cons se_int (sa_cons se_int sa_nil))) (b_is_tuple_of _)))) (ss_one (ss_ret se_bl)) ss_nil) (ss_cons (ss_set 1 nd (se_ix hu (se_var 0 (hv := (Or.inl rfl))) se_int)) (ss_cons (ss_set 2 nd (se_len T.b_len (sa_cons (se_var 0 (hv := (Or.inl rfl))) sa_nil))) (ss_cons (ss_if (st_w (sw_or (st_cmp (op_eqS hu64) sp_eqS (se_var 1 (hv := (Or.inl rfl))) se_str (nomark _)) (sw_or1 (st_cmp (op_eqS hu64) sp_eqS (se_var 1 (hv := (Or.inl rfl))) se_str (nomark _))))) (ss_one (ss_ret (se_cmp (op_eqA hu64) sp_eq (se_var 2 (hv := (Or.inl rfl))) se_int (nomark _)))) ss_nil) (ss_cons (ss_if (st_w (sw_or (st_cmp (op_eqS hu64) sp_eqS (se_var 1 (hv := (Or.inl rfl))) se_str (nomark _)) (sw_or1 (st_cmp (op_eqS hu64) sp_eqS (se_var 1 (hv := (Or.inl rfl))) se_str (nomark _))))) (ss_one (ss_ret (se_and (se_cmp (op_eqA hu64) sp_eq (se_var 2 (hv := (Or.inl rfl))) se_int (nomark _)) (se_one (se_call (h_are_numbers.mono (by decide)) hr (sa_cons (se_slA (se_var 0 (hv := (Or.inl rfl))) (so_some se_int) so_none) sa_nil) (b_are_numbers _)))))) ss_nil) (ss_cons (ss_if (st_cmp (op_eqS hu64) sp_eqS (se_var 1 (hv := (Or.inl rfl))) se_str (nomark _)) (ss_one (ss_ret (se_and (se_cmp (op_eqA hu64) sp_eq (se_var 2 (hv := (Or.inl rfl))) se_int (nomark _)) (se_and (se_call (h_are_numbers.mono (by decide)) hr (sa_cons (se_slA (se_var 0 (hv := (Or.inl rfl))) (so_some se_int) (so_some se_int)) sa_nil) (b_are_numbers _)) (se_one (se_call (h_is_share.mono (by decide)) hr (sa_cons (se_ix hu (se_var 0 (hv := (Or.inl rfl))) se_int) sa_nil) (b_is_share _))))))) ss_nil) (ss_one (ss_ret (se_and (se_cmp (op_eqS hu64) sp_eqS (se_var 1 (hv := (Or.inl rfl))) se_str (nomark _)) (se_and (se_cmp (op_eqA hu64) sp_eq (se_var 2 (hv := (Or.inl rfl))) se_int (nomark _)) (se_and (se_call (h_are_numbers.mono (by decide)) hr (sa_cons (se_slA (se_var 0 (hv := (Or.inl rfl))) (so_some se_int) (so_some se_int)) sa_nil) (b_are_numbers _)) (se_one (se_call (h_are_told_pairs.mono (by decide)) hr (sa_cons (se_ix hu (se_var 0 (hv := (Or.inl rfl))) se_int) sa_nil) (b_are_told_pairs _))))))))))))))
abbrev n_is_program : List Str := ["thing", "line"]
theorem sc_is_program : FnScope n_is_program ["thing"] (defScope s_is_program) := ⟨rfl, rfl, rfl, by decide +kernel, rfl, by decide +kernel, by decide +kernel⟩
theorem b_is_program (K : PySem.W.Frag) : ∀ (kV doc pm : Value) (an : Option Addr) (cdv ct : Value) (us : List Value), us.length = (["thing"] : List Str).length → ∀ s : Shared, K.In s.heap → BindsTo s (PySem.W.fnOf "is_program" "is_program" (defArgs s_is_program) (defBody s_is_program) (defScope s_is_program) .none kV doc pm an cdv ct) ⟨us, []⟩ ((["thing"] : List Str).zip us) := fun _ _ _ _ _ _ us hl _ _ => BindsTo.of_eq (match us, hl with | [_], _ => rfl)
theorem ok_is_program (T : Txt K mg ) (h_is_tuple_of : HasFn P w K mg base 1 "is_tuple_of" s_is_tuple_of .none ["thing", "least", "most"] F_is_tuple_of) (h_is_program_line : HasFn P w K mg base 5 "is_program_line" s_is_program_line .none ["thing"] F_is_program_line) (FA : ∃ f fd, mg "is_program" = some (.ref f) ∧ FunA K "is_program" "is_program" s_is_program .none f fd) : HasFn P w K mg base 6 "is_program" s_is_program .none ["thing"] F_is_program := by
  obtain ⟨f, fd, hm, F⟩ := FA
  refine ⟨⟨f, fd, hm, F, fn_ok F sc_is_program fun cdv A outer s H E hr => ?_⟩, fun ds h v h' e => mkFn_len e⟩
  have hu := hu_of hr
  have hu64 := hr.units
  have nd := sc_is_program.nd
  exact (ss_one (ss_ret (se_and (se_call (h_is_tuple_of.mono (by decide)) hr (sa_cons (se_var 0 (hv := (Or.inl rfl))) (sa_cons se_int (sa_cons (se_globE rfl T.u_MOST_LINES) sa_nil))) (b_is_tuple_of _)) (se_one (se_all rfl T.b_all (sa_cons (se_lc [("line", 1)] rfl nd (si_seq (se_var 0 (hv := (Or.inl rfl)))) (blkOk_by (N := n_is_program) (sc := defScope s_is_program) (by decide +kernel)) (fun _ _ _ _ _ => (sg_name 1 nd)) (fun _ _ _ _ _ => sts_nil) (fun _ _ _ _ _ => (se_call (h_is_program_line.mono (by decide)) hr (sa_cons (se_var 1) sa_nil) (b_is_program_line _)))) sa_nil))))))
abbrev n__law_is_number : List Str := ["_law_what_is"]
theorem sc__law_is_number : FnScope n__law_is_number ["_law_what_is"] (defScope s__law_is_number) := ⟨rfl, rfl, rfl, by decide +kernel, rfl, by decide +kernel, by decide +kernel⟩
theorem b__law_is_number (K : PySem.W.Frag) : ∀ (kV doc pm : Value) (an : Option Addr) (cdv ct : Value) (us : List Value), us.length = (["_law_what_is"] : List Str).length → ∀ s : Shared, K.In s.heap → BindsTo s (PySem.W.fnOf "_law_is_number" "_law_is_number" (defArgs s__law_is_number) (defBody s__law_is_number) (defScope s__law_is_number) .none kV doc pm an cdv ct) ⟨us, []⟩ ((["_law_what_is"] : List Str).zip us) := fun _ _ _ _ _ _ us hl _ _ => BindsTo.of_eq (match us, hl with | [_], _ => rfl)
theorem ok__law_is_number (T : Txt K mg ) (FA : ∃ f fd, mg "_law_is_number" = some (.ref f) ∧ FunA K "_law_is_number" "_law_is_number" s__law_is_number .none f fd) : HasFn P w K mg base 1 "_law_is_number" s__law_is_number .none ["_law_what_is"] F__law_is_number := by
  obtain ⟨f, fd, hm, F⟩ := FA
  refine ⟨⟨f, fd, hm, F, fn_ok F sc__law_is_number fun cdv A outer s H E hr => ?_⟩, fun ds h v h' e => mkFn_len e⟩
  have hu := hu_of hr
  have hu64 := hr.units
  have nd := sc__law_is_number.nd
  exact (ss_one (ss_ret (se_and (se_isi .int T.b_isinstance T.b_int (se_var 0 (hv := (Or.inl rfl)))) (se_and (se_not (se_isi .bl T.b_isinstance T.b_bool (se_var 0 (hv := (Or.inl rfl))))) (se_one (se_chain op_le sp_le op_le sp_le se_int (se_var 0 (hv := (Or.inl rfl))) se_int))))))
abbrev n__law_are_pairs : List Str := ["_law_what_is", "_law_two"]
theorem sc__law_are_pairs : FnScope n__law_are_pairs ["_law_what_is"] (defScope s__law_are_pairs) := ⟨rfl, rfl, rfl, by decide +kernel, rfl, by decide +kernel, by decide +kernel⟩
theorem b__law_are_pairs (K : PySem.W.Frag) : ∀ (kV doc pm : Value) (an : Option Addr) (cdv ct : Value) (us : List Value), us.length = (["_law_what_is"] : List Str).length → ∀ s : Shared, K.In s.heap → BindsTo s (PySem.W.fnOf "_law_are_pairs" "_law_are_pairs" (defArgs s__law_are_pairs) (defBody s__law_are_pairs) (defScope s__law_are_pairs) .none kV doc pm an cdv ct) ⟨us, []⟩ ((["_law_what_is"] : List Str).zip us) := fun _ _ _ _ _ _ us hl _ _ => BindsTo.of_eq (match us, hl with | [_], _ => rfl)
theorem ok__law_are_pairs (T : Txt K mg ) (h__law_is_number : HasFn P w K mg base 1 "_law_is_number" s__law_is_number .none ["_law_what_is"] F__law_is_number) (FA : ∃ f fd, mg "_law_are_pairs" = some (.ref f) ∧ FunA K "_law_are_pairs" "_law_are_pairs" s__law_are_pairs .none f fd) : HasFn P w K mg base 2 "_law_are_pairs" s__law_are_pairs .none ["_law_what_is"] F__law_are_pairs := by
  obtain ⟨f, fd, hm, F⟩ := FA
  refine ⟨⟨f, fd, hm, F, fn_ok F sc__law_are_pairs fun cdv A outer s H E hr => ?_⟩, fun ds h v h' e => mkFn_len e⟩
  have hu := hu_of hr
  have hu64 := hr.units
  have nd := sc__law_are_pairs.nd
  exact (ss_cons (ss_if (st_w (sw_or (st_not (st_val (se_isi .tup T.b_isinstance T.b_tuple (se_var 0 (hv := (Or.inl rfl)))))) (sw_or1 (st_not (st_chain op_le sp_le op_le sp_le se_int (se_len T.b_len (sa_cons (se_var 0 (hv := (Or.inl rfl))) sa_nil)) se_int))))) (ss_one (ss_ret se_bl)) ss_nil) (ss_cons (ss_for rfl (si_seq (se_var 0 (hv := (Or.inl rfl)))) (sg_name 1 nd) (ss_cons (ss_if (st_w (sw_or (st_not (st_val (se_isi .tup T.b_isinstance T.b_tuple (se_var 1 (hv := (Or.inl rfl)))))) (sw_or1 (st_cmp (op_neA hu64) sp_ne (se_len T.b_len (sa_cons (se_var 1 (hv := (Or.inl rfl))) sa_nil)) se_int (nomark _))))) (ss_one (ss_ret se_bl)) ss_nil) (ss_one (ss_if (st_w (sw_or (st_not (st_val (se_call (h__law_is_number.mono (by decide)) hr (sa_cons (se_ix hu (se_var 1 (hv := (Or.inl rfl))) se_int) sa_nil) (b__law_is_number _)))) (sw_or1 (st_not (st_val (se_call (h__law_is_number.mono (by decide)) hr (sa_cons (se_ix hu (se_var 1 (hv := (Or.inl rfl))) se_int) sa_nil) (b__law_is_number _))))))) (ss_one (ss_ret se_bl)) ss_nil)))) (ss_one (ss_ret se_bl))))
abbrev n__law_common : List Str := ["_law_one", "_law_two"]
theorem sc__law_common : FnScope n__law_common ["_law_one", "_law_two"] (defScope s__law_common) := ⟨rfl, rfl, rfl, by decide +kernel, rfl, by decide +kernel, by decide +kernel⟩
theorem b__law_common (K : PySem.W.Frag) : ∀ (kV doc pm : Value) (an : Option Addr) (cdv ct : Value) (us : List Value), us.length = (["_law_one", "_law_two"] : List Str).length → ∀ s : Shared, K.In s.heap → BindsTo s (PySem.W.fnOf "_law_common" "_law_common" (defArgs s__law_common) (defBody s__law_common) (defScope s__law_common) .none kV doc pm an cdv ct) ⟨us, []⟩ ((["_law_one", "_law_two"] : List Str).zip us) := fun _ _ _ _ _ _ us hl _ _ => BindsTo.of_eq (match us, hl with | [_, _], _ => rfl)
theorem ok__law_common (T : Txt K mg ) (FA : ∃ f fd, mg "_law_common" = some (.ref f) ∧ FunA K "_law_common" "_law_common" s__law_common .none f fd) : HasFn P w K mg base 1 "_law_common" s__law_common .none ["_law_one", "_law_two"] F__law_common := by
  obtain ⟨f, fd, hm, F⟩ := FA
  refine ⟨⟨f, fd, hm, F, fn_ok F sc__law_common fun cdv A outer s H E hr => ?_⟩, fun ds h v h' e => mkFn_len e⟩
  have hu := hu_of hr
  have hu64 := hr.units
  have nd := sc__law_common.nd
  exact (ss_cons (ss_par 0 1 rfl nd (sa_cons (se_abs T.b_abs (sa_cons (se_var 0 (hv := (Or.inl rfl))) sa_nil)) (sa_cons (se_abs T.b_abs (sa_cons (se_var 1 (hv := (Or.inl rfl))) sa_nil)) sa_nil))) (ss_cons (ss_while (mInt 1) (st_cmp op_gt sp_gt (se_var 1 (hv := (Or.inl rfl))) se_int (nomark _)) (ss_one (ss_par 0 1 rfl nd (sa_cons (se_var 1 (hv := (Or.inl rfl))) (sa_cons (se_mod (se_var 0 (hv := (Or.inl rfl))) (se_var 1 (hv := (Or.inl rfl)))) sa_nil))))) (ss_one (ss_ret (se_var 0 (hv := (Or.inl rfl)))))))
abbrev n__law_is_share : List Str := ["_law_what_is", "_law_one"]
theorem sc__law_is_share : FnScope n__law_is_share ["_law_what_is"] (defScope s__law_is_share) := ⟨rfl, rfl, rfl, by decide +kernel, rfl, by decide +kernel, by decide +kernel⟩
theorem b__law_is_share (K : PySem.W.Frag) : ∀ (kV doc pm : Value) (an : Option Addr) (cdv ct : Value) (us : List Value), us.length = (["_law_what_is"] : List Str).length → ∀ s : Shared, K.In s.heap → BindsTo s (PySem.W.fnOf "_law_is_share" "_law_is_share" (defArgs s__law_is_share) (defBody s__law_is_share) (defScope s__law_is_share) .none kV doc pm an cdv ct) ⟨us, []⟩ ((["_law_what_is"] : List Str).zip us) := fun _ _ _ _ _ _ us hl _ _ => BindsTo.of_eq (match us, hl with | [_], _ => rfl)
theorem ok__law_is_share (T : Txt K mg ) (h__law_common : HasFn P w K mg base 1 "_law_common" s__law_common .none ["_law_one", "_law_two"] F__law_common) (FA : ∃ f fd, mg "_law_is_share" = some (.ref f) ∧ FunA K "_law_is_share" "_law_is_share" s__law_is_share .none f fd) : HasFn P w K mg base 2 "_law_is_share" s__law_is_share .none ["_law_what_is"] F__law_is_share := by
  obtain ⟨f, fd, hm, F⟩ := FA
  refine ⟨⟨f, fd, hm, F, fn_ok F sc__law_is_share fun cdv A outer s H E hr => ?_⟩, fun ds h v h' e => mkFn_len e⟩
  have hu := hu_of hr
  have hu64 := hr.units
  have nd := sc__law_is_share.nd
  exact (ss_cons (ss_if (st_w (sw_or (st_not (st_val (se_isi .tup T.b_isinstance T.b_tuple (se_var 0 (hv := (Or.inl rfl)))))) (sw_or1 (st_cmp (op_neA hu64) sp_ne (se_len T.b_len (sa_cons (se_var 0 (hv := (Or.inl rfl))) sa_nil)) se_int (nomark _))))) (ss_one (ss_ret se_bl)) ss_nil) (ss_cons (ss_if (st_w (sw_or (st_cmp (op_neL hu64) sp_eqL (se_lc [("_law_one", 1)] rfl nd (si_seq (se_var 0 (hv := (Or.inl rfl)))) (blkOk_by (N := n__law_is_share) (sc := defScope s__law_is_share) (by decide +kernel)) (fun _ _ _ _ _ => (sg_name 1 nd)) (fun _ _ _ _ _ => (sts_one (st_w (sw_or (st_not (st_val (se_isi .int T.b_isinstance T.b_int (se_var 1)))) (sw_or1 (st_val (se_isi .bl T.b_isinstance T.b_bool (se_var 1)))))))) (fun _ _ _ _ _ => (se_var 1))) (se_lst sa_nil) (nomark _)) (sw_or1 (st_cmp op_lt sp_lt (se_ix hu (se_var 0 (hv := (Or.inl rfl))) se_int) se_int (nomark _))))) (ss_one (ss_ret se_bl)) ss_nil) (ss_one (ss_ret (se_cmp (op_eqA hu64) sp_eq (se_call (h__law_common.mono (by decide)) hr (sa_cons (se_ix hu (se_var 0 (hv := (Or.inl rfl))) se_int) (sa_cons (se_ix hu (se_var 0 (hv := (Or.inl rfl))) se_int) sa_nil)) (b__law_common _)) se_int (nomark _))))))
abbrev n__law_is_line : List Str := ["_law_what_is", "_law_size"]
theorem sc__law_is_line : FnScope n__law_is_line ["_law_what_is"] (defScope s__law_is_line) := ⟨rfl, rfl, rfl, by decide +kernel, rfl, by decide +kernel, by decide +kernel⟩
theorem b__law_is_line (K : PySem.W.Frag) : ∀ (kV doc pm : Value) (an : Option Addr) (cdv ct : Value) (us : List Value), us.length = (["_law_what_is"] : List Str).length → ∀ s : Shared, K.In s.heap → BindsTo s (PySem.W.fnOf "_law_is_line" "_law_is_line" (defArgs s__law_is_line) (defBody s__law_is_line) (defScope s__law_is_line) .none kV doc pm an cdv ct) ⟨us, []⟩ ((["_law_what_is"] : List Str).zip us) := fun _ _ _ _ _ _ us hl _ _ => BindsTo.of_eq (match us, hl with | [_], _ => rfl)
theorem ok__law_is_line (T : Txt K mg ) (h__law_is_number : HasFn P w K mg base 1 "_law_is_number" s__law_is_number .none ["_law_what_is"] F__law_is_number) (h__law_is_share : HasFn P w K mg base 2 "_law_is_share" s__law_is_share .none ["_law_what_is"] F__law_is_share) (h__law_are_pairs : HasFn P w K mg base 2 "_law_are_pairs" s__law_are_pairs .none ["_law_what_is"] F__law_are_pairs) (FA : ∃ f fd, mg "_law_is_line" = some (.ref f) ∧ FunA K "_law_is_line" "_law_is_line" s__law_is_line .none f fd) : HasFn P w K mg base 3 "_law_is_line" s__law_is_line .none ["_law_what_is"] F__law_is_line := by
  obtain ⟨f, fd, hm, F⟩ := FA
  refine ⟨⟨f, fd, hm, F, fn_ok F sc__law_is_line fun cdv A outer s H E hr => ?_⟩, fun ds h v h' e => mkFn_len e⟩
  have hu := hu_of hr
  have hu64 := hr.units
  have nd := sc__law_is_line.nd
  exact (ss_cons (ss_if (st_w (sw_or (st_not (st_val (se_isi .tup T.b_isinstance T.b_tuple (se_var 0 (hv := (Or.inl rfl)))))) (sw_or (st_cmp (op_eqU hu64) sp_eqU (se_var 0 (hv := (Or.inl rfl))) (se_tup sa_nil) (nomark _)) (sw_or1 (st_not (st_val (se_isi .str T.b_isinstance T.b_str (se_ix hu (se_var 0 (hv := (Or.inl rfl))) se_int)))))))) (ss_one (ss_ret se_bl)) ss_nil) (ss_cons (ss_if (st_inD hu64 (se_ix hu (se_var 0 (hv := (Or.inl rfl))) se_int) (se_tup (sa_cons se_str (sa_cons se_str sa_nil)))) (ss_one (ss_ret (se_cmp (op_eqA hu64) sp_eq (se_len T.b_len (sa_cons (se_var 0 (hv := (Or.inl rfl))) sa_nil)) se_int (nomark _)))) ss_nil) (ss_cons (ss_if (st_cmp (op_eqS hu64) sp_eqS (se_ix hu (se_var 0 (hv := (Or.inl rfl))) se_int) se_str (nomark _)) (ss_one (ss_ret (se_and (se_cmp (op_eqA hu64) sp_eq (se_len T.b_len (sa_cons (se_var 0 (hv := (Or.inl rfl))) sa_nil)) se_int (nomark _)) (se_and (se_call (h__law_is_number.mono (by decide)) hr (sa_cons (se_ix hu (se_var 0 (hv := (Or.inl rfl))) se_int) sa_nil) (b__law_is_number _)) (se_one (se_call (h__law_is_share.mono (by decide)) hr (sa_cons (se_ix hu (se_var 0 (hv := (Or.inl rfl))) se_int) sa_nil) (b__law_is_share _))))))) ss_nil) (ss_cons (ss_set 1 nd (se_get2 hu (se_disp (sp_cons se_str se_int (sp_cons se_str se_int (sp_cons se_str se_int sp_nil)))) (se_ix hu (se_var 0 (hv := (Or.inl rfl))) se_int) se_int)) (ss_cons (ss_if (st_w (sw_or (st_cmp (op_neA hu64) sp_ne (se_len T.b_len (sa_cons (se_var 0 (hv := (Or.inl rfl))) sa_nil)) (se_var 1 (hv := (Or.inl rfl))) (nomark _)) (sw_or (st_not (st_val (se_call (h__law_is_number.mono (by decide)) hr (sa_cons (se_ix hu (se_var 0 (hv := (Or.inl rfl))) se_int) sa_nil) (b__law_is_number _)))) (sw_or1 (st_not (st_val (se_call (h__law_is_number.mono (by decide)) hr (sa_cons (se_ix hu (se_var 0 (hv := (Or.inl rfl))) se_int) sa_nil) (b__law_is_number _)))))))) (ss_one (ss_ret se_bl)) ss_nil) (ss_one (ss_ret (se_or (se_cmp (op_eqA hu64) sp_eq (se_var 1 (hv := (Or.inl rfl))) se_int (nomark _)) (se_one (se_call (h__law_are_pairs.mono (by decide)) hr (sa_cons (se_ix hu (se_var 0 (hv := (Or.inl rfl))) se_int) sa_nil) (b__law_are_pairs _)))))))))))
abbrev n__law_due : List Str := ["_law_what_is", "_law_line_here"]
theorem sc__law_due : FnScope n__law_due ["_law_what_is"] (defScope s__law_due) := ⟨rfl, rfl, rfl, by decide +kernel, rfl, by decide +kernel, by decide +kernel⟩
theorem b__law_due (K : PySem.W.Frag) : ∀ (kV doc pm : Value) (an : Option Addr) (cdv ct : Value) (us : List Value), us.length = (["_law_what_is"] : List Str).length → ∀ s : Shared, K.In s.heap → BindsTo s (PySem.W.fnOf "_law_due" "_law_due" (defArgs s__law_due) (defBody s__law_due) (defScope s__law_due) .none kV doc pm an cdv ct) ⟨us, []⟩ ((["_law_what_is"] : List Str).zip us) := fun _ _ _ _ _ _ us hl _ _ => BindsTo.of_eq (match us, hl with | [_], _ => rfl)
theorem ok__law_due (T : Txt K mg ) (h__law_is_line : HasFn P w K mg base 3 "_law_is_line" s__law_is_line .none ["_law_what_is"] F__law_is_line) (FA : ∃ f fd, mg "_law_due" = some (.ref f) ∧ FunA K "_law_due" "_law_due" s__law_due .none f fd) : HasFn P w K mg base 4 "_law_due" s__law_due .none ["_law_what_is"] F__law_due := by
  obtain ⟨f, fd, hm, F⟩ := FA
  refine ⟨⟨f, fd, hm, F, fn_ok F sc__law_due fun cdv A outer s H E hr => ?_⟩, fun ds h v h' e => mkFn_len e⟩
  have hu := hu_of hr
  have hu64 := hr.units
  have nd := sc__law_due.nd
  exact (ss_cons (ss_if (st_w (sw_or (st_not (st_val (se_isi .tup T.b_isinstance T.b_tuple (se_var 0 (hv := (Or.inl rfl)))))) (sw_or1 (st_cmp op_gt sp_gt (se_len T.b_len (sa_cons (se_var 0 (hv := (Or.inl rfl))) sa_nil)) se_int (nomark _))))) (ss_one (ss_ret se_bl)) ss_nil) (ss_one (ss_ret (se_cmp (op_eqL hu64) sp_eqL (se_lc [("_law_line_here", 1)] rfl nd (si_seq (se_var 0 (hv := (Or.inl rfl)))) (blkOk_by (N := n__law_due) (sc := defScope s__law_due) (by decide +kernel)) (fun _ _ _ _ _ => (sg_name 1 nd)) (fun _ _ _ _ _ => (sts_one (st_not (st_val (se_call (h__law_is_line.mono (by decide)) hr (sa_cons (se_var 1) sa_nil) (b__law_is_line _)))))) (fun _ _ _ _ _ => (se_var 1))) (se_lst sa_nil) (nomark _)))))
abbrev n_law : List Str := ["_law_script", "_law_pen_here", "_law_turn", "_law_lines", "_law_things", "_law_what_is", "_law_kept", "_law_found", "_law_k"]
theorem sc_law : FnScope n_law ["_law_script"] (defScope s_law) := ⟨rfl, rfl, rfl, by decide +kernel, rfl, by decide +kernel, by decide +kernel⟩
theorem ok_law (T : Txt K mg ) (h__law_pen : HasFn P w K mg base 1 "_law_pen" s__law_pen .none ["_law_script"] F__law_pen) (h__law_take : HasFn P w K mg base 1 "_law_take" s__law_take .none ["_law_pen_here", "_law_many"] F__law_take) (h__law_line : HasFn P w K mg base 2 "_law_line" s__law_line .none ["_law_pen_here"] F__law_line) (h__law_bent : HasFn P w K mg base 3 "_law_bent" s__law_bent .none ["_law_pen_here", "_law_lines"] F__law_bent) (h_is_program : HasFn P w K mg base 6 "is_program" s_is_program .none ["thing"] F_is_program) (h__law_due : HasFn P w K mg base 4 "_law_due" s__law_due .none ["_law_what_is"] F__law_due) (FA : ∃ f fd, mg "law" = some (.ref f) ∧ FunA K "law" "law" s_law .none f fd) : HasFn P w K mg base 7 "law" s_law .none ["_law_script"] F_law := by
  obtain ⟨f, fd, hm, F⟩ := FA
  refine ⟨⟨f, fd, hm, F, fn_ok F sc_law fun cdv A outer s H E hr => ?_⟩, fun ds h v h' e => mkFn_len e⟩
  have hu := hu_of hr
  have hu64 := hr.units
  have nd := sc_law.nd
  exact (ss_cons (ss_set 1 nd (se_call (h__law_pen.mono (by decide)) hr (sa_cons (se_var 0 (hv := (Or.inl rfl))) sa_nil) (b__law_pen _))) (ss_cons (ss_for rfl (si_r1 T.b_range (sa_cons se_int sa_nil)) (sg_name 2 nd) (ss_cons (ss_set 3 nd (se_tuple T.b_tuple (sa_cons (se_lc [("_law_k", 8)] rfl nd (si_r1 T.b_range (sa_cons (se_ix hu (se_lst (sa_cons (se_call (h__law_take.mono (by decide)) hr (sa_cons (se_var 1 (hv := (Or.inr (Or.inl rfl)))) (sa_cons se_int sa_nil)) (b__law_take _)) (sa_cons se_int (sa_cons se_int (sa_cons se_int sa_nil))))) (se_call (h__law_take.mono (by decide)) hr (sa_cons (se_var 1 (hv := (Or.inr (Or.inl rfl)))) (sa_cons se_int sa_nil)) (b__law_take _))) sa_nil)) (blkOk_by (N := n_law) (sc := defScope s_law) (by decide +kernel)) (fun _ _ _ _ _ => (sg_name 8 nd)) (fun _ _ _ _ _ => sts_nil) (fun _ _ _ _ _ => (se_call (h__law_line.mono (by decide)) hr (sa_cons (se_var 1) sa_nil) (b__law_line _)))) sa_nil))) (ss_cons (ss_set 4 nd (se_addA (se_lst (sa_cons (se_var 3 (hv := (Or.inr (Or.inl rfl)))) sa_nil)) (se_lc [("_law_k", 8)] rfl nd (si_r1 T.b_range (sa_cons se_int sa_nil)) (blkOk_by (N := n_law) (sc := defScope s_law) (by decide +kernel)) (fun _ _ _ _ _ => (sg_name 8 nd)) (fun _ _ _ _ _ => sts_nil) (fun _ _ _ _ _ => (se_call (h__law_bent.mono (by decide)) hr (sa_cons (se_var 1) (sa_cons (se_var 3) sa_nil)) (b__law_bent _)))))) (ss_one (ss_for rfl (si_seq (se_addA (se_var 4 (hv := (Or.inl rfl))) (se_slA (se_var 4 (hv := (Or.inl rfl))) so_none (so_some se_int)))) (sg_name 5 nd) (ss_cons (ss_set 6 nd (se_reprZ hr T.b_repr (sa_cons (se_var 5 (hv := (Or.inl rfl))) sa_nil))) (ss_one (ss_for rfl (si_seq (se_lst (sa_cons (se_call (h_is_program.mono (by decide)) hr (sa_cons (se_var 5 (hv := (Or.inl rfl))) sa_nil) (b_is_program _)) (sa_cons (se_callK0 [0] 1 ["thing"] (h_is_program.mono (by decide)) hr (sk_cons (se_var 5 (hv := (Or.inl rfl))) sk_nil) (fun _ _ _ _ _ _ ws hl _ _ => BindsTo.of_eq (match ws, hl with | [_], _ => rfl))) sa_nil)))) (sg_name 7 nd) (ss_one (ss_if (st_w (sw_or (st_not (st_val (se_isi .bl T.b_isinstance T.b_bool (se_var 7 (hv := (Or.inl rfl)))))) (sw_or (st_cmp (op_neA hu64) sp_ne (se_var 7 (hv := (Or.inl rfl))) (se_call (h__law_due.mono (by decide)) hr (sa_cons (se_var 5 (hv := (Or.inl rfl))) sa_nil) (b__law_due _)) (nomark _)) (sw_or1 (st_cmp (op_neA hu64) sp_ne (se_reprZ hr T.b_repr (sa_cons (se_var 5 (hv := (Or.inl rfl))) sa_nil)) (se_var 6 (hv := (Or.inl rfl))) (nomark _)))))) (ss_one (ss_ret se_bl)) ss_nil)))))))))) (ss_one (ss_ret se_bl))))
end
theorem all_mk {l : PySem.W.OpenLaw} {w : World} {K : PySem.W.Frag} {h : Heap} {mg : Str → Option Value} {fa : Addr} (X : K.In h) (G : h.Ns mainGlobals mg) (hfa : mg "law" = some (.ref fa))
    {f_0 f_1 f_2 f_3 f_4 f_5 f_6 f_7 f_8 f_9 f_10 f_11 f_12 f_13 f_14 f_15 f_16 f_17 f_18 f_19 f_20 : Addr}
    {od0 an0 : Option Addr} {sl0 : Array (Option Value)} {oc0 kV0 dc0 pm0 cd0 ct0 : Value}
    {od1 an1 : Option Addr} {sl1 : Array (Option Value)} {oc1 kV1 dc1 pm1 cd1 ct1 : Value}
    {od2 an2 : Option Addr} {sl2 : Array (Option Value)} {oc2 kV2 dc2 pm2 cd2 ct2 : Value}
    {od3 an3 : Option Addr} {sl3 : Array (Option Value)} {oc3 kV3 dc3 pm3 cd3 ct3 : Value}
    {od4 an4 : Option Addr} {sl4 : Array (Option Value)} {oc4 kV4 dc4 pm4 cd4 ct4 : Value}
    {od5 an5 : Option Addr} {sl5 : Array (Option Value)} {oc5 kV5 dc5 pm5 cd5 ct5 : Value}
    {od6 an6 : Option Addr} {sl6 : Array (Option Value)} {oc6 kV6 dc6 pm6 cd6 ct6 : Value}
    {od7 an7 : Option Addr} {sl7 : Array (Option Value)} {oc7 kV7 dc7 pm7 cd7 ct7 : Value}
    {od8 an8 : Option Addr} {sl8 : Array (Option Value)} {oc8 kV8 dc8 pm8 cd8 ct8 : Value}
    {od9 an9 : Option Addr} {sl9 : Array (Option Value)} {oc9 kV9 dc9 pm9 cd9 ct9 : Value}
    {od10 an10 : Option Addr} {sl10 : Array (Option Value)} {oc10 kV10 dc10 pm10 cd10 ct10 : Value}
    {od11 an11 : Option Addr} {sl11 : Array (Option Value)} {oc11 kV11 dc11 pm11 cd11 ct11 : Value}
    {od12 an12 : Option Addr} {sl12 : Array (Option Value)} {oc12 kV12 dc12 pm12 cd12 ct12 : Value}
    {od13 an13 : Option Addr} {sl13 : Array (Option Value)} {oc13 kV13 dc13 pm13 cd13 ct13 : Value}
    {od14 an14 : Option Addr} {sl14 : Array (Option Value)} {oc14 kV14 dc14 pm14 cd14 ct14 : Value}
    {od15 an15 : Option Addr} {sl15 : Array (Option Value)} {oc15 kV15 dc15 pm15 cd15 ct15 : Value}
    {od16 an16 : Option Addr} {sl16 : Array (Option Value)} {oc16 kV16 dc16 pm16 cd16 ct16 : Value}
    {od17 an17 : Option Addr} {sl17 : Array (Option Value)} {oc17 kV17 dc17 pm17 cd17 ct17 : Value}
    {od18 an18 : Option Addr} {sl18 : Array (Option Value)} {oc18 kV18 dc18 pm18 cd18 ct18 : Value}
    {od19 an19 : Option Addr} {sl19 : Array (Option Value)} {oc19 kV19 dc19 pm19 cd19 ct19 : Value}
    {od20 an20 : Option Addr} {sl20 : Array (Option Value)} {oc20 kV20 dc20 pm20 cd20 ct20 : Value}
    (a0 : PySem.W.nsIn K mainGlobals "_law_pen" = some (some (.ref f_0))) (l0 : K.lookup f_0 = some ⟨oc0, od0, .func (PySem.W.fnOf "_law_pen" "_law_pen" (defArgs s__law_pen) (defBody s__law_pen) (defScope s__law_pen) .none kV0 dc0 pm0 an0 cd0 ct0), sl0⟩) (e0 : PySem.W.codeIn K cd0 "_law_pen" = true) (k0 : PySem.W.keepIn K (.ref f_0) = true)
    (a1 : PySem.W.nsIn K mainGlobals "_law_take" = some (some (.ref f_1))) (l1 : K.lookup f_1 = some ⟨oc1, od1, .func (PySem.W.fnOf "_law_take" "_law_take" (defArgs s__law_take) (defBody s__law_take) (defScope s__law_take) .none kV1 dc1 pm1 an1 cd1 ct1), sl1⟩) (e1 : PySem.W.codeIn K cd1 "_law_take" = true) (k1 : PySem.W.keepIn K (.ref f_1) = true)
    (a2 : PySem.W.nsIn K mainGlobals "_law_line" = some (some (.ref f_2))) (l2 : K.lookup f_2 = some ⟨oc2, od2, .func (PySem.W.fnOf "_law_line" "_law_line" (defArgs s__law_line) (defBody s__law_line) (defScope s__law_line) .none kV2 dc2 pm2 an2 cd2 ct2), sl2⟩) (e2 : PySem.W.codeIn K cd2 "_law_line" = true) (k2 : PySem.W.keepIn K (.ref f_2) = true)
    (a3 : PySem.W.nsIn K mainGlobals "_law_odd" = some (some (.ref f_3))) (l3 : K.lookup f_3 = some ⟨oc3, od3, .func (PySem.W.fnOf "_law_odd" "_law_odd" (defArgs s__law_odd) (defBody s__law_odd) (defScope s__law_odd) .none kV3 dc3 pm3 an3 cd3 ct3), sl3⟩) (e3 : PySem.W.codeIn K cd3 "_law_odd" = true) (k3 : PySem.W.keepIn K (.ref f_3) = true)
    (a4 : PySem.W.nsIn K mainGlobals "_law_bent" = some (some (.ref f_4))) (l4 : K.lookup f_4 = some ⟨oc4, od4, .func (PySem.W.fnOf "_law_bent" "_law_bent" (defArgs s__law_bent) (defBody s__law_bent) (defScope s__law_bent) .none kV4 dc4 pm4 an4 cd4 ct4), sl4⟩) (e4 : PySem.W.codeIn K cd4 "_law_bent" = true) (k4 : PySem.W.keepIn K (.ref f_4) = true)
    (a5 : PySem.W.nsIn K mainGlobals "is_tuple_of" = some (some (.ref f_5))) (l5 : K.lookup f_5 = some ⟨oc5, od5, .func (PySem.W.fnOf "is_tuple_of" "is_tuple_of" (defArgs s_is_tuple_of) (defBody s_is_tuple_of) (defScope s_is_tuple_of) .none kV5 dc5 pm5 an5 cd5 ct5), sl5⟩) (e5 : PySem.W.codeIn K cd5 "is_tuple_of" = true) (k5 : PySem.W.keepIn K (.ref f_5) = true)
    (a6 : PySem.W.nsIn K mainGlobals "is_whole" = some (some (.ref f_6))) (l6 : K.lookup f_6 = some ⟨oc6, od6, .func (PySem.W.fnOf "is_whole" "is_whole" (defArgs s_is_whole) (defBody s_is_whole) (defScope s_is_whole) .none kV6 dc6 pm6 an6 cd6 ct6), sl6⟩) (e6 : PySem.W.codeIn K cd6 "is_whole" = true) (k6 : PySem.W.keepIn K (.ref f_6) = true)
    (a7 : PySem.W.nsIn K mainGlobals "is_below" = some (some (.ref f_7))) (l7 : K.lookup f_7 = some ⟨oc7, od7, .func (PySem.W.fnOf "is_below" "is_below" (defArgs s_is_below) (defBody s_is_below) (defScope s_is_below) .none kV7 dc7 pm7 an7 cd7 ct7), sl7⟩) (e7 : PySem.W.codeIn K cd7 "is_below" = true) (k7 : PySem.W.keepIn K (.ref f_7) = true)
    (a8 : PySem.W.nsIn K mainGlobals "are_numbers" = some (some (.ref f_8))) (l8 : K.lookup f_8 = some ⟨oc8, od8, .func (PySem.W.fnOf "are_numbers" "are_numbers" (defArgs s_are_numbers) (defBody s_are_numbers) (defScope s_are_numbers) .none kV8 dc8 pm8 an8 cd8 ct8), sl8⟩) (e8 : PySem.W.codeIn K cd8 "are_numbers" = true) (k8 : PySem.W.keepIn K (.ref f_8) = true)
    (a9 : PySem.W.nsIn K mainGlobals "are_told_pairs" = some (some (.ref f_9))) (l9 : K.lookup f_9 = some ⟨oc9, od9, .func (PySem.W.fnOf "are_told_pairs" "are_told_pairs" (defArgs s_are_told_pairs) (defBody s_are_told_pairs) (defScope s_are_told_pairs) .none kV9 dc9 pm9 an9 cd9 ct9), sl9⟩) (e9 : PySem.W.codeIn K cd9 "are_told_pairs" = true) (k9 : PySem.W.keepIn K (.ref f_9) = true)
    (a10 : PySem.W.nsIn K mainGlobals "common_divisor" = some (some (.ref f_10))) (l10 : K.lookup f_10 = some ⟨oc10, od10, .func (PySem.W.fnOf "common_divisor" "common_divisor" (defArgs s_common_divisor) (defBody s_common_divisor) (defScope s_common_divisor) .none kV10 dc10 pm10 an10 cd10 ct10), sl10⟩) (e10 : PySem.W.codeIn K cd10 "common_divisor" = true) (k10 : PySem.W.keepIn K (.ref f_10) = true)
    (a11 : PySem.W.nsIn K mainGlobals "is_share" = some (some (.ref f_11))) (l11 : K.lookup f_11 = some ⟨oc11, od11, .func (PySem.W.fnOf "is_share" "is_share" (defArgs s_is_share) (defBody s_is_share) (defScope s_is_share) .none kV11 dc11 pm11 an11 cd11 ct11), sl11⟩) (e11 : PySem.W.codeIn K cd11 "is_share" = true) (k11 : PySem.W.keepIn K (.ref f_11) = true)
    (a12 : PySem.W.nsIn K mainGlobals "is_program_line" = some (some (.ref f_12))) (l12 : K.lookup f_12 = some ⟨oc12, od12, .func (PySem.W.fnOf "is_program_line" "is_program_line" (defArgs s_is_program_line) (defBody s_is_program_line) (defScope s_is_program_line) .none kV12 dc12 pm12 an12 cd12 ct12), sl12⟩) (e12 : PySem.W.codeIn K cd12 "is_program_line" = true) (k12 : PySem.W.keepIn K (.ref f_12) = true)
    (a13 : PySem.W.nsIn K mainGlobals "is_program" = some (some (.ref f_13))) (l13 : K.lookup f_13 = some ⟨oc13, od13, .func (PySem.W.fnOf "is_program" "is_program" (defArgs s_is_program) (defBody s_is_program) (defScope s_is_program) .none kV13 dc13 pm13 an13 cd13 ct13), sl13⟩) (e13 : PySem.W.codeIn K cd13 "is_program" = true) (k13 : PySem.W.keepIn K (.ref f_13) = true)
    (a14 : PySem.W.nsIn K mainGlobals "_law_is_number" = some (some (.ref f_14))) (l14 : K.lookup f_14 = some ⟨oc14, od14, .func (PySem.W.fnOf "_law_is_number" "_law_is_number" (defArgs s__law_is_number) (defBody s__law_is_number) (defScope s__law_is_number) .none kV14 dc14 pm14 an14 cd14 ct14), sl14⟩) (e14 : PySem.W.codeIn K cd14 "_law_is_number" = true) (k14 : PySem.W.keepIn K (.ref f_14) = true)
    (a15 : PySem.W.nsIn K mainGlobals "_law_are_pairs" = some (some (.ref f_15))) (l15 : K.lookup f_15 = some ⟨oc15, od15, .func (PySem.W.fnOf "_law_are_pairs" "_law_are_pairs" (defArgs s__law_are_pairs) (defBody s__law_are_pairs) (defScope s__law_are_pairs) .none kV15 dc15 pm15 an15 cd15 ct15), sl15⟩) (e15 : PySem.W.codeIn K cd15 "_law_are_pairs" = true) (k15 : PySem.W.keepIn K (.ref f_15) = true)
    (a16 : PySem.W.nsIn K mainGlobals "_law_common" = some (some (.ref f_16))) (l16 : K.lookup f_16 = some ⟨oc16, od16, .func (PySem.W.fnOf "_law_common" "_law_common" (defArgs s__law_common) (defBody s__law_common) (defScope s__law_common) .none kV16 dc16 pm16 an16 cd16 ct16), sl16⟩) (e16 : PySem.W.codeIn K cd16 "_law_common" = true) (k16 : PySem.W.keepIn K (.ref f_16) = true)
    (a17 : PySem.W.nsIn K mainGlobals "_law_is_share" = some (some (.ref f_17))) (l17 : K.lookup f_17 = some ⟨oc17, od17, .func (PySem.W.fnOf "_law_is_share" "_law_is_share" (defArgs s__law_is_share) (defBody s__law_is_share) (defScope s__law_is_share) .none kV17 dc17 pm17 an17 cd17 ct17), sl17⟩) (e17 : PySem.W.codeIn K cd17 "_law_is_share" = true) (k17 : PySem.W.keepIn K (.ref f_17) = true)
    (a18 : PySem.W.nsIn K mainGlobals "_law_is_line" = some (some (.ref f_18))) (l18 : K.lookup f_18 = some ⟨oc18, od18, .func (PySem.W.fnOf "_law_is_line" "_law_is_line" (defArgs s__law_is_line) (defBody s__law_is_line) (defScope s__law_is_line) .none kV18 dc18 pm18 an18 cd18 ct18), sl18⟩) (e18 : PySem.W.codeIn K cd18 "_law_is_line" = true) (k18 : PySem.W.keepIn K (.ref f_18) = true)
    (a19 : PySem.W.nsIn K mainGlobals "_law_due" = some (some (.ref f_19))) (l19 : K.lookup f_19 = some ⟨oc19, od19, .func (PySem.W.fnOf "_law_due" "_law_due" (defArgs s__law_due) (defBody s__law_due) (defScope s__law_due) .none kV19 dc19 pm19 an19 cd19 ct19), sl19⟩) (e19 : PySem.W.codeIn K cd19 "_law_due" = true) (k19 : PySem.W.keepIn K (.ref f_19) = true)
    (a20 : PySem.W.nsIn K mainGlobals "law" = some (some (.ref f_20))) (l20 : K.lookup f_20 = some ⟨oc20, od20, .func (PySem.W.fnOf "law" "law" (defArgs s_law) (defBody s_law) (defScope s_law) .none kV20 dc20 pm20 an20 cd20 ct20), sl20⟩) (e20 : PySem.W.codeIn K cd20 "law" = true) (k20 : PySem.W.keepIn K (.ref f_20) = true)
    (z0 : PySem.W.nsIn K mainGlobals "abs" = some none)
    (z1 : PySem.W.nsIn K mainGlobals "all" = some none)
    (z2 : PySem.W.nsIn K mainGlobals "bool" = some none)
    (z3 : PySem.W.nsIn K mainGlobals "int" = some none)
    (z4 : PySem.W.nsIn K mainGlobals "isinstance" = some none)
    (z5 : PySem.W.nsIn K mainGlobals "len" = some none)
    (z6 : PySem.W.nsIn K mainGlobals "list" = some none)
    (z7 : PySem.W.nsIn K mainGlobals "range" = some none)
    (z8 : PySem.W.nsIn K mainGlobals "repr" = some none)
    (z9 : PySem.W.nsIn K mainGlobals "str" = some none)
    (z10 : PySem.W.nsIn K mainGlobals "tuple" = some none)
    {gt0 : Tok} (g0 : PySem.W.nsIn K mainGlobals "MOST_LINES" = some (some (.int 12 gt0)))
    {gt1 : Tok} (g1 : PySem.W.nsIn K mainGlobals "MOST_PAIRS" = some (some (.int 9 gt1)))
    {gt2 : Tok} (g2 : PySem.W.nsIn K mainGlobals "NUMBERS" = some (some (.int 10 gt2)))
    : ∃ fd : FuncData, (∀ (s : Shared) (v : Value), BindsTo s fd ⟨[v], []⟩ [("_law_script", v)]) ∧ ∀ base : Heap, K.In base → base.Ns mainGlobals mg → FnOk l.prog w K mg base CX0 7 fa fd ["_law_script"] (spF K 1 F_law) := by
  have e := hfa.symm.trans (PySem.W.mg_of X G a20)
  cases e
  have T : Txt K mg  := ⟨PySem.W.mg_none_of X G z0, PySem.W.mg_none_of X G z1, PySem.W.mg_none_of X G z2, PySem.W.mg_none_of X G z3, PySem.W.mg_none_of X G z4, PySem.W.mg_none_of X G z5, PySem.W.mg_none_of X G z6, PySem.W.mg_none_of X G z7, PySem.W.mg_none_of X G z8, PySem.W.mg_none_of X G z9, PySem.W.mg_none_of X G z10, ⟨_, PySem.W.mg_of X G g0, .int 12, ⟨_, rfl⟩, fun ρ H => .int _⟩, ⟨_, PySem.W.mg_of X G g1, .int 9, ⟨_, rfl⟩, fun ρ H => .int _⟩, ⟨_, PySem.W.mg_of X G g2, .int 10, ⟨_, rfl⟩, fun ρ H => .int _⟩⟩
  refine ⟨PySem.W.fnOf "law" "law" (defArgs s_law) (defBody s_law) (defScope s_law) .none kV20 dc20 pm20 an20 cd20 ct20, fun s v => .of_eq rfl, fun base _ _ => ?_⟩
  have m0 : FunA K "_law_pen" "_law_pen" s__law_pen .none f_0 _ := ⟨⟨oc0, od0, kV0, dc0, pm0, an0, cd0, ct0, sl0, rfl, l0, e0⟩, k0⟩
  have h__law_pen := ok__law_pen (P := l.prog) (w := w) (base := base) T  ⟨_, _, PySem.W.mg_of X G a0, m0⟩
  have m1 : FunA K "_law_take" "_law_take" s__law_take .none f_1 _ := ⟨⟨oc1, od1, kV1, dc1, pm1, an1, cd1, ct1, sl1, rfl, l1, e1⟩, k1⟩
  have h__law_take := ok__law_take (P := l.prog) (w := w) (base := base) T  ⟨_, _, PySem.W.mg_of X G a1, m1⟩
  have m2 : FunA K "_law_line" "_law_line" s__law_line .none f_2 _ := ⟨⟨oc2, od2, kV2, dc2, pm2, an2, cd2, ct2, sl2, rfl, l2, e2⟩, k2⟩
  have h__law_line := ok__law_line (P := l.prog) (w := w) (base := base) T h__law_take ⟨_, _, PySem.W.mg_of X G a2, m2⟩
  have m3 : FunA K "_law_odd" "_law_odd" s__law_odd .none f_3 _ := ⟨⟨oc3, od3, kV3, dc3, pm3, an3, cd3, ct3, sl3, rfl, l3, e3⟩, k3⟩
  have h__law_odd := ok__law_odd (P := l.prog) (w := w) (base := base) T h__law_take ⟨_, _, PySem.W.mg_of X G a3, m3⟩
  have m4 : FunA K "_law_bent" "_law_bent" s__law_bent .none f_4 _ := ⟨⟨oc4, od4, kV4, dc4, pm4, an4, cd4, ct4, sl4, rfl, l4, e4⟩, k4⟩
  have h__law_bent := ok__law_bent (P := l.prog) (w := w) (base := base) T h__law_take h__law_odd ⟨_, _, PySem.W.mg_of X G a4, m4⟩
  have m5 : FunA K "is_tuple_of" "is_tuple_of" s_is_tuple_of .none f_5 _ := ⟨⟨oc5, od5, kV5, dc5, pm5, an5, cd5, ct5, sl5, rfl, l5, e5⟩, k5⟩
  have h_is_tuple_of := ok_is_tuple_of (P := l.prog) (w := w) (base := base) T  ⟨_, _, PySem.W.mg_of X G a5, m5⟩
  have m6 : FunA K "is_whole" "is_whole" s_is_whole .none f_6 _ := ⟨⟨oc6, od6, kV6, dc6, pm6, an6, cd6, ct6, sl6, rfl, l6, e6⟩, k6⟩
  have h_is_whole := ok_is_whole (P := l.prog) (w := w) (base := base) T  ⟨_, _, PySem.W.mg_of X G a6, m6⟩
  have m7 : FunA K "is_below" "is_below" s_is_below .none f_7 _ := ⟨⟨oc7, od7, kV7, dc7, pm7, an7, cd7, ct7, sl7, rfl, l7, e7⟩, k7⟩
  have h_is_below := ok_is_below (P := l.prog) (w := w) (base := base) T h_is_whole ⟨_, _, PySem.W.mg_of X G a7, m7⟩
  have m8 : FunA K "are_numbers" "are_numbers" s_are_numbers .none f_8 _ := ⟨⟨oc8, od8, kV8, dc8, pm8, an8, cd8, ct8, sl8, rfl, l8, e8⟩, k8⟩
  have h_are_numbers := ok_are_numbers (P := l.prog) (w := w) (base := base) T h_is_below ⟨_, _, PySem.W.mg_of X G a8, m8⟩
  have m9 : FunA K "are_told_pairs" "are_told_pairs" s_are_told_pairs .none f_9 _ := ⟨⟨oc9, od9, kV9, dc9, pm9, an9, cd9, ct9, sl9, rfl, l9, e9⟩, k9⟩
  have h_are_told_pairs := ok_are_told_pairs (P := l.prog) (w := w) (base := base) T h_is_tuple_of h_are_numbers ⟨_, _, PySem.W.mg_of X G a9, m9⟩
  have m10 : FunA K "common_divisor" "common_divisor" s_common_divisor .none f_10 _ := ⟨⟨oc10, od10, kV10, dc10, pm10, an10, cd10, ct10, sl10, rfl, l10, e10⟩, k10⟩
  have h_common_divisor := ok_common_divisor (P := l.prog) (w := w) (base := base) T  ⟨_, _, PySem.W.mg_of X G a10, m10⟩
  have m11 : FunA K "is_share" "is_share" s_is_share .none f_11 _ := ⟨⟨oc11, od11, kV11, dc11, pm11, an11, cd11, ct11, sl11, rfl, l11, e11⟩, k11⟩
  have h_is_share := ok_is_share (P := l.prog) (w := w) (base := base) T h_is_tuple_of h_is_whole h_common_divisor ⟨_, _, PySem.W.mg_of X G a11, m11⟩
  have m12 : FunA K "is_program_line" "is_program_line" s_is_program_line .none f_12 _ := ⟨⟨oc12, od12, kV12, dc12, pm12, an12, cd12, ct12, sl12, rfl, l12, e12⟩, k12⟩
  have h_is_program_line := ok_is_program_line (P := l.prog) (w := w) (base := base) T h_is_tuple_of h_are_numbers h_is_share h_are_told_pairs ⟨_, _, PySem.W.mg_of X G a12, m12⟩
  have m13 : FunA K "is_program" "is_program" s_is_program .none f_13 _ := ⟨⟨oc13, od13, kV13, dc13, pm13, an13, cd13, ct13, sl13, rfl, l13, e13⟩, k13⟩
  have h_is_program := ok_is_program (P := l.prog) (w := w) (base := base) T h_is_tuple_of h_is_program_line ⟨_, _, PySem.W.mg_of X G a13, m13⟩
  have m14 : FunA K "_law_is_number" "_law_is_number" s__law_is_number .none f_14 _ := ⟨⟨oc14, od14, kV14, dc14, pm14, an14, cd14, ct14, sl14, rfl, l14, e14⟩, k14⟩
  have h__law_is_number := ok__law_is_number (P := l.prog) (w := w) (base := base) T  ⟨_, _, PySem.W.mg_of X G a14, m14⟩
  have m15 : FunA K "_law_are_pairs" "_law_are_pairs" s__law_are_pairs .none f_15 _ := ⟨⟨oc15, od15, kV15, dc15, pm15, an15, cd15, ct15, sl15, rfl, l15, e15⟩, k15⟩
  have h__law_are_pairs := ok__law_are_pairs (P := l.prog) (w := w) (base := base) T h__law_is_number ⟨_, _, PySem.W.mg_of X G a15, m15⟩
  have m16 : FunA K "_law_common" "_law_common" s__law_common .none f_16 _ := ⟨⟨oc16, od16, kV16, dc16, pm16, an16, cd16, ct16, sl16, rfl, l16, e16⟩, k16⟩
  have h__law_common := ok__law_common (P := l.prog) (w := w) (base := base) T  ⟨_, _, PySem.W.mg_of X G a16, m16⟩
  have m17 : FunA K "_law_is_share" "_law_is_share" s__law_is_share .none f_17 _ := ⟨⟨oc17, od17, kV17, dc17, pm17, an17, cd17, ct17, sl17, rfl, l17, e17⟩, k17⟩
  have h__law_is_share := ok__law_is_share (P := l.prog) (w := w) (base := base) T h__law_common ⟨_, _, PySem.W.mg_of X G a17, m17⟩
  have m18 : FunA K "_law_is_line" "_law_is_line" s__law_is_line .none f_18 _ := ⟨⟨oc18, od18, kV18, dc18, pm18, an18, cd18, ct18, sl18, rfl, l18, e18⟩, k18⟩
  have h__law_is_line := ok__law_is_line (P := l.prog) (w := w) (base := base) T h__law_is_number h__law_is_share h__law_are_pairs ⟨_, _, PySem.W.mg_of X G a18, m18⟩
  have m19 : FunA K "_law_due" "_law_due" s__law_due .none f_19 _ := ⟨⟨oc19, od19, kV19, dc19, pm19, an19, cd19, ct19, sl19, rfl, l19, e19⟩, k19⟩
  have h__law_due := ok__law_due (P := l.prog) (w := w) (base := base) T h__law_is_line ⟨_, _, PySem.W.mg_of X G a19, m19⟩
  have m20 : FunA K "law" "law" s_law .none fa _ := ⟨⟨oc20, od20, kV20, dc20, pm20, an20, cd20, ct20, sl20, rfl, l20, e20⟩, k20⟩
  have h_law := ok_law (P := l.prog) (w := w) (base := base) T h__law_pen h__law_take h__law_line h__law_bent h_is_program h__law_due ⟨_, _, PySem.W.mg_of X G a20, m20⟩
  obtain ⟨f, fd, q1, q2, q3⟩ := h_law.ex
  have q := q1.symm.trans (PySem.W.mg_of X G a20)
  cases q
  obtain ⟨_, _, _, _, _, _, _, _, _, q4, q5, _⟩ := q2.ex
  have q6 := q5.symm.trans l20
  simp only [Option.some.injEq, Obj.mk.injEq, Data.func.injEq] at q6
  obtain ⟨_, _, rfl, _⟩ := q6
  exact q3
end Mine
set_option Elab.async false
set_option linter.all false
set_option autoImplicit false
set_option maxRecDepth 100000
namespace Mine
open PySem PySem.Spec PyProof.Rows L2 EV
set_option maxHeartbeats 4000000
section
variable {S : PenSys} (jd : JF S F__law_take wDraw)
include jd
omit jd
noncomputable def WB__law_line : WS := (wsSeq (wsPar 4 5 (wApp wDraw (wCons (wVar 0) (wCons (wK (.int 10)) wNil))) (wBin vIx (wLst (wCons (wK (.int 0)) (wCons (wK (.int 9)) (wCons (wK (.int 1)) wNil)))) (wApp wDraw (wCons (wVar 0) (wCons (wK (.int 3)) wNil))))) (wsSeq (wsSet 1 (wBin vIx (wLst (wCons (wTup (wCons (wK (.int 1)) (wCons (wK (.int 2)) wNil))) (wCons (wTup (wCons (wK (.int 0)) (wCons (wK (.int 1)) wNil))) (wCons (wTup (wCons (wK (.int 3)) (wCons (wK (.int 1)) wNil))) (wCons (wTup (wCons (wNeg (wK (.int 7))) (wCons (wK (.int 9)) wNil))) (wCons (wTup (wCons (wBin vAdd (wBin vPow (wK (.int 10)) (wK (.int 12))) (wK (.int 1))) (wCons (wBin vPow (wK (.int 10)) (wK (.int 12))) wNil))) wNil)))))) (wApp wDraw (wCons (wVar 0) (wCons (wK (.int 5)) wNil))))) (wsSeq (wsSet 2 (wB1 vTuple (wLC (wR1 (wBin vIx (wLst (wCons (wK (.int 1)) (wCons (wK (.int 9)) (wCons (wK (.int 2)) wNil)))) (wApp wDraw (wCons (wVar 0) (wCons (wK (.int 3)) wNil))))) [6] (wgSet 6) wtTrue (wTup (wCons (wApp wDraw (wCons (wVar 0) (wCons (wK (.int 10)) wNil))) (wCons (wApp wDraw (wCons (wVar 0) (wCons (wK (.int 10)) wNil))) wNil)))))) (wsSeq (wsSet 3 (wLst (wCons (wTup (wCons (wK (.str "see")) (wCons (wVar 4) (wCons (wVar 5) (wCons (wVar 2) wNil))))) (wCons (wTup (wCons (wK (.str "forget")) (wCons (wVar 4) (wCons (wVar 5) wNil)))) (wCons (wTup (wCons (wK (.str "gap")) (wCons (wVar 4) (wCons (wVar 1) wNil)))) (wCons (wTup (wCons (wK (.str "weight")) wNil)) (wCons (wTup (wCons (wK (.str "carries")) (wCons (wVar 4) (wCons (wVar 5) wNil)))) wNil))))))) (wsRet (wBin vIx (wBin vAdd (wVar 3) (wLst (wCons (wTup (wCons (wK (.str "lot")) wNil)) wNil))) (wApp wDraw (wCons (wVar 0) (wCons (wK (.int 6)) wNil)))))))))
noncomputable def W__law_line : WF := wFn 1 7 WB__law_line
theorem j__law_line (jd : JF S F__law_take wDraw) : JF S F__law_line W__law_line := jf_of (O' := []) ((js_seq (js_par 4 5 (j_app jd (ja_cons (j_var 0) (ja_cons (j_k fun _ _ _ => (.int _)) ja_nil))) (j_bin o2_ix (JE.x (JN.e (jn_lst (ja_cons (j_k fun _ _ _ => (.int _)) (ja_cons (j_k fun _ _ _ => (.int _)) (ja_cons (j_k fun _ _ _ => (.int _)) ja_nil)))))) (JE.x (j_app jd (ja_cons (j_var 0) (ja_cons (j_k fun _ _ _ => (.int _)) ja_nil)))))) (js_seq (js_set 1 (j_bin o2_ix (JE.x (JN.e (jn_lst (ja_cons (j_tup (ja_cons (j_k fun _ _ _ => (.int _)) (ja_cons (j_k fun _ _ _ => (.int _)) ja_nil))) (ja_cons (j_tup (ja_cons (j_k fun _ _ _ => (.int _)) (ja_cons (j_k fun _ _ _ => (.int _)) ja_nil))) (ja_cons (j_tup (ja_cons (j_k fun _ _ _ => (.int _)) (ja_cons (j_k fun _ _ _ => (.int _)) ja_nil))) (ja_cons (j_tup (ja_cons (j_neg (j_k fun _ _ _ => (.int _))) (ja_cons (j_k fun _ _ _ => (.int _)) ja_nil))) (ja_cons (j_tup (ja_cons (j_bin o2_add (JE.x (j_bin o2_pow (JE.x (j_k fun _ _ _ => (.int _))) (JE.x (j_k fun _ _ _ => (.int _))))) (JE.x (j_k fun _ _ _ => (.int _)))) (ja_cons (j_bin o2_pow (JE.x (j_k fun _ _ _ => (.int _))) (JE.x (j_k fun _ _ _ => (.int _)))) ja_nil))) ja_nil)))))))) (JE.x (j_app jd (ja_cons (j_var 0) (ja_cons (j_k fun _ _ _ => (.int _)) ja_nil)))))) (js_seq (js_set 2 (j_b1 o1_tuple (JE.x (JN.e (jn_lc (by decide) (JIS.i (jis_r1 (j_bin o2_ix (JE.x (JN.e (jn_lst (ja_cons (j_k fun _ _ _ => (.int _)) (ja_cons (j_k fun _ _ _ => (.int _)) (ja_cons (j_k fun _ _ _ => (.int _)) ja_nil)))))) (JE.x (j_app jd (ja_cons (j_var 0) (ja_cons (j_k fun _ _ _ => (.int _)) ja_nil))))))) (jg_set 6) jt_true (j_tup (ja_cons (j_app jd (ja_cons (j_var 0) (ja_cons (j_k fun _ _ _ => (.int _)) ja_nil))) (ja_cons (j_app jd (ja_cons (j_var 0) (ja_cons (j_k fun _ _ _ => (.int _)) ja_nil))) ja_nil)))))))) (js_seq (js_set 3 (JN.e (jn_lst (ja_cons (j_tup (ja_cons (j_k fun _ _ _ => (.str _)) (ja_cons (j_var 4) (ja_cons (j_var 5) (ja_cons (j_var 2) ja_nil))))) (ja_cons (j_tup (ja_cons (j_k fun _ _ _ => (.str _)) (ja_cons (j_var 4) (ja_cons (j_var 5) ja_nil)))) (ja_cons (j_tup (ja_cons (j_k fun _ _ _ => (.str _)) (ja_cons (j_var 4) (ja_cons (j_var 1) ja_nil)))) (ja_cons (j_tup (ja_cons (j_k fun _ _ _ => (.str _)) ja_nil)) (ja_cons (j_tup (ja_cons (j_k fun _ _ _ => (.str _)) (ja_cons (j_var 4) (ja_cons (j_var 5) ja_nil)))) ja_nil)))))))) (js_ret (j_bin o2_ix (JE.x (j_bin o2_add (JE.x (j_var 3)) (JE.x (JN.e (jn_lst (ja_cons (j_tup (ja_cons (j_k fun _ _ _ => (.str _)) ja_nil)) ja_nil)))))) (JE.x (j_app jd (ja_cons (j_var 0) (ja_cons (j_k fun _ _ _ => (.int _)) ja_nil)))))))))))
noncomputable def WB__law_odd : WS := (wsSeq (wsSet 2 (wLst (wCons (wK .non) (wCons (wK (.bl true)) (wCons (wK (.bl false)) (wCons (wNeg (wK (.int 1))) (wCons (wK (.int 0)) (wCons (wK (.int 9)) (wCons (wK (.int 10)) (wCons (wBin vPow (wK (.int 10)) (wK (.int 60))) (wCons (wK (.str "")) (wCons (wK (.str "see")) (wCons (wK (.str "lot")) (wCons (wK (.str "Weight")) (wCons (wK (.str "gap")) (wCons (wK (.str "forget")) (wCons (wK (.str "carries")) (wCons (wK (.str "0")) wNil)))))))))))))))))) (wsSeq (wsSet 2 (wBin vAdd (wVar 2) (wLst (wCons (wTup wNil) (wCons (wLst wNil) (wCons wDict0 (wCons (wTup (wCons (wK (.int 1)) (wCons (wK (.int 2)) wNil))) (wCons (wTup (wCons (wK (.int 2)) (wCons (wK (.int 4)) wNil))) (wCons (wTup (wCons (wK (.int 1)) (wCons (wK (.int 0)) wNil))) (wCons (wTup (wCons (wK (.int 0)) (wCons (wK (.int 2)) wNil))) (wCons (wTup (wCons (wK (.int 1)) (wCons (wNeg (wK (.int 2))) wNil))) (wCons (wTup (wCons (wK (.bl true)) (wCons (wK (.int 2)) wNil))) (wCons (wTup (wCons (wTup (wCons (wK (.int 0)) (wCons (wK (.int 1)) wNil))) wNil)) (wCons (wTup (wCons (wTup (wCons (wK (.int 0)) (wCons (wK (.int 1)) (wCons (wK (.int 1)) wNil)))) wNil)) (wCons (wLst (wCons (wVar 1) wNil)) wNil))))))))))))))) (wsSeq (wsSet 2 (wBin vAdd (wVar 2) (wLst (wCons (wTup (wCons (wVar 1) wNil)) (wCons (wBin vMulA (wTup (wCons (wTup (wCons (wK (.int 0)) (wCons (wK (.int 1)) wNil))) wNil)) (wK (.int 9))) (wCons (wBin vMulA (wTup (wCons (wTup (wCons (wK (.int 0)) (wCons (wK (.int 1)) wNil))) wNil)) (wK (.int 10))) (wCons (wTup (wCons (wTup (wCons (wK (.int 0)) (wCons (wK (.int 10)) wNil))) wNil)) (wCons (wTup (wCons (wTup (wCons (wK (.int 0)) (wCons (wK (.bl true)) wNil))) wNil)) (wCons (wLst (wCons (wTup (wCons (wK (.int 0)) (wCons (wK (.int 1)) wNil))) wNil)) (wCons (wTup (wCons (wLst (wCons (wK (.int 0)) (wCons (wK (.int 1)) wNil))) wNil)) (wCons (wTup (wCons (wK (.int 1)) (wCons (wK (.int 2)) (wCons (wK (.int 3)) wNil)))) wNil))))))))))) (wsRet (wBin vIx (wVar 2) (wApp wDraw (wCons (wVar 0) (wCons (wK (.int 36)) wNil))))))))
noncomputable def W__law_odd : WF := wFn 2 3 WB__law_odd
theorem j__law_odd (jd : JF S F__law_take wDraw) : JF S F__law_odd W__law_odd := jf_of (O' := []) ((js_seq (js_set 2 (JN.e (jn_lst (ja_cons (j_k fun _ _ _ => .non) (ja_cons (j_k fun _ _ _ => (.bl _)) (ja_cons (j_k fun _ _ _ => (.bl _)) (ja_cons (j_neg (j_k fun _ _ _ => (.int _))) (ja_cons (j_k fun _ _ _ => (.int _)) (ja_cons (j_k fun _ _ _ => (.int _)) (ja_cons (j_k fun _ _ _ => (.int _)) (ja_cons (j_bin o2_pow (JE.x (j_k fun _ _ _ => (.int _))) (JE.x (j_k fun _ _ _ => (.int _)))) (ja_cons (j_k fun _ _ _ => (.str _)) (ja_cons (j_k fun _ _ _ => (.str _)) (ja_cons (j_k fun _ _ _ => (.str _)) (ja_cons (j_k fun _ _ _ => (.str _)) (ja_cons (j_k fun _ _ _ => (.str _)) (ja_cons (j_k fun _ _ _ => (.str _)) (ja_cons (j_k fun _ _ _ => (.str _)) (ja_cons (j_k fun _ _ _ => (.str _)) ja_nil))))))))))))))))))) (js_seq (js_set 2 (j_bin o2_add (JE.x (j_var 2)) (JE.x (JN.e (jn_lst (ja_cons (j_tup ja_nil) (ja_cons (JN.e (jn_lst ja_nil)) (ja_cons (JN.e jn_dict0) (ja_cons (j_tup (ja_cons (j_k fun _ _ _ => (.int _)) (ja_cons (j_k fun _ _ _ => (.int _)) ja_nil))) (ja_cons (j_tup (ja_cons (j_k fun _ _ _ => (.int _)) (ja_cons (j_k fun _ _ _ => (.int _)) ja_nil))) (ja_cons (j_tup (ja_cons (j_k fun _ _ _ => (.int _)) (ja_cons (j_k fun _ _ _ => (.int _)) ja_nil))) (ja_cons (j_tup (ja_cons (j_k fun _ _ _ => (.int _)) (ja_cons (j_k fun _ _ _ => (.int _)) ja_nil))) (ja_cons (j_tup (ja_cons (j_k fun _ _ _ => (.int _)) (ja_cons (j_neg (j_k fun _ _ _ => (.int _))) ja_nil))) (ja_cons (j_tup (ja_cons (j_k fun _ _ _ => (.bl _)) (ja_cons (j_k fun _ _ _ => (.int _)) ja_nil))) (ja_cons (j_tup (ja_cons (j_tup (ja_cons (j_k fun _ _ _ => (.int _)) (ja_cons (j_k fun _ _ _ => (.int _)) ja_nil))) ja_nil)) (ja_cons (j_tup (ja_cons (j_tup (ja_cons (j_k fun _ _ _ => (.int _)) (ja_cons (j_k fun _ _ _ => (.int _)) (ja_cons (j_k fun _ _ _ => (.int _)) ja_nil)))) ja_nil)) (ja_cons (JN.e (jn_lst (ja_cons (j_var 1) ja_nil))) ja_nil))))))))))))))))) (js_seq (js_set 2 (j_bin o2_add (JE.x (j_var 2)) (JE.x (JN.e (jn_lst (ja_cons (j_tup (ja_cons (j_var 1) ja_nil)) (ja_cons (j_bin o2_mulA (JE.x (j_tup (ja_cons (j_tup (ja_cons (j_k fun _ _ _ => (.int _)) (ja_cons (j_k fun _ _ _ => (.int _)) ja_nil))) ja_nil))) (JE.x (j_k fun _ _ _ => (.int _)))) (ja_cons (j_bin o2_mulA (JE.x (j_tup (ja_cons (j_tup (ja_cons (j_k fun _ _ _ => (.int _)) (ja_cons (j_k fun _ _ _ => (.int _)) ja_nil))) ja_nil))) (JE.x (j_k fun _ _ _ => (.int _)))) (ja_cons (j_tup (ja_cons (j_tup (ja_cons (j_k fun _ _ _ => (.int _)) (ja_cons (j_k fun _ _ _ => (.int _)) ja_nil))) ja_nil)) (ja_cons (j_tup (ja_cons (j_tup (ja_cons (j_k fun _ _ _ => (.int _)) (ja_cons (j_k fun _ _ _ => (.bl _)) ja_nil))) ja_nil)) (ja_cons (JN.e (jn_lst (ja_cons (j_tup (ja_cons (j_k fun _ _ _ => (.int _)) (ja_cons (j_k fun _ _ _ => (.int _)) ja_nil))) ja_nil))) (ja_cons (j_tup (ja_cons (JN.e (jn_lst (ja_cons (j_k fun _ _ _ => (.int _)) (ja_cons (j_k fun _ _ _ => (.int _)) ja_nil)))) ja_nil)) (ja_cons (j_tup (ja_cons (j_k fun _ _ _ => (.int _)) (ja_cons (j_k fun _ _ _ => (.int _)) (ja_cons (j_k fun _ _ _ => (.int _)) ja_nil)))) ja_nil))))))))))))) (js_ret (j_bin o2_ix (JE.x (j_var 2)) (JE.x (j_app jd (ja_cons (j_var 0) (ja_cons (j_k fun _ _ _ => (.int _)) ja_nil))))))))))
noncomputable def WB__law_bent : WS := (wsSeq (wsSet 2 (wApp wDraw (wCons (wVar 0) (wCons (wK (.int 8)) wNil)))) (wsSeq (wsIf (wtOr (wB (wBin vEqU (wVar 1) (wTup wNil))) (wB (wBin vEq (wVar 2) (wK (.int 0))))) (wsSeq (wsSet 6 (wLst (wCons (wK .non) (wCons (wK (.bl true)) (wCons (wK (.int 0)) (wCons (wK (.str "")) (wCons (wK (.str "lot")) (wCons (wTup wNil) (wCons (wLst wNil) (wCons wDict0 (wCons (wTup (wCons (wK (.str "lot")) wNil)) (wCons (wTup (wCons (wTup (wCons (wK (.str "lot")) wNil)) (wCons (wK .non) wNil))) (wCons (wLst (wCons (wTup (wCons (wK (.str "lot")) wNil)) wNil)) (wCons (wTup (wCons (wTup wNil) wNil)) wNil)))))))))))))) (wsRet (wBin vIx (wVar 6) (wApp wDraw (wCons (wVar 0) (wCons (wK (.int 12)) wNil)))))) wsNext) (wsSeq (wsSet 3 (wApp wDraw (wCons (wVar 0) (wCons (wB1 vLen (wVar 1)) wNil)))) (wsSeq (wsSet 4 (wBin vIx (wVar 1) (wVar 3))) (wsSeq (wsSet 5 (wApp wDraw (wCons (wVar 0) (wCons (wB1 vLen (wVar 4)) wNil)))) (wsSeq (wsIf (wB (wBin vLt (wVar 2) (wK (.int 4)))) (wsSeq (wsSet 7 (wBin vAdd (wBin vAdd (wSl (wVar 4) woNone (woSome (wVar 5))) (wTup (wCons (wApp W__law_odd (wCons (wVar 0) (wCons (wBin vIx (wVar 4) (wVar 5)) wNil))) wNil))) (wSl (wVar 4) (woSome (wBin vAdd (wVar 5) (wK (.int 1)))) woNone))) (wsRet (wBin vAdd (wBin vAdd (wSl (wVar 1) woNone (woSome (wVar 3))) (wTup (wCons (wVar 7) wNil))) (wSl (wVar 1) (woSome (wBin vAdd (wVar 3) (wK (.int 1)))) woNone)))) wsNext) (wsSeq (wsIf (wB (wBin vEq (wVar 2) (wK (.int 4)))) (wsSeq (wsSet 6 (wLst (wCons (wSl (wVar 4) woNone (woSome (wNeg (wK (.int 1))))) (wCons (wBin vAdd (wVar 4) (wTup (wCons (wK (.int 0)) wNil))) (wCons (wB1 vList (wVar 4)) (wCons (wBin vIx (wVar 4) (wK (.int 0))) (wCons (wK .non) (wCons (wTup (wCons (wVar 4) wNil)) (wCons (wRevA (wVar 4)) (wCons (wBin vAdd (wVar 4) (wTup (wCons (wK (.str "a")) wNil))) wNil)))))))))) (wsRet (wBin vAdd (wBin vAdd (wSl (wVar 1) woNone (woSome (wVar 3))) (wTup (wCons (wBin vIx (wVar 6) (wApp wDraw (wCons (wVar 0) (wCons (wK (.int 8)) wNil)))) wNil))) (wSl (wVar 1) (woSome (wBin vAdd (wVar 3) (wK (.int 1)))) woNone)))) wsNext) (wsSeq (wsIf (wB (wBin vEq (wVar 2) (wK (.int 5)))) (wsRet (wBin vIx (wLst (wCons (wBin vMulA (wVar 1) (wK (.int 2))) (wCons (wBin vAdd (wSl (wVar 1) woNone (woSome (wVar 3))) (wSl (wVar 1) (woSome (wBin vAdd (wVar 3) (wK (.int 1)))) woNone)) (wCons (wBin vAdd (wSl (wVar 1) woNone (woSome (wBin vAdd (wVar 3) (wK (.int 1))))) (wSl (wVar 1) (woSome (wVar 3)) woNone)) (wCons (wB1 vList (wVar 1)) wNil))))) (wApp wDraw (wCons (wVar 0) (wCons (wK (.int 4)) wNil))))) wsNext) (wsRet (wBin vIx (wLst (wCons (wSl (wBin vMulA (wVar 1) (wK (.int 13))) woNone (woSome (wK (.int 12)))) (wCons (wSl (wBin vMulA (wVar 1) (wK (.int 13))) woNone (woSome (wK (.int 13)))) (wCons (wTup (wCons (wVar 1) wNil)) wNil)))) (wApp wDraw (wCons (wVar 0) (wCons (wK (.int 3)) wNil)))))))))))))
noncomputable def W__law_bent : WF := wFn 2 8 WB__law_bent
theorem j__law_bent (jd : JF S F__law_take wDraw) : JF S F__law_bent W__law_bent := jf_of (O' := []) ((js_seq (js_set 2 (j_app jd (ja_cons (j_var 0) (ja_cons (j_k fun _ _ _ => (.int _)) ja_nil)))) (js_seq (js_if (jt_or (jt_b (j_bin o2_eqU (JE.x (j_var 1)) (JE.x (j_tup ja_nil)))) (jt_b (j_bin o2_eq (JE.x (j_var 2)) (JE.x (j_k fun _ _ _ => (.int _)))))) (js_seq (js_set 6 (JN.e (jn_lst (ja_cons (j_k fun _ _ _ => .non) (ja_cons (j_k fun _ _ _ => (.bl _)) (ja_cons (j_k fun _ _ _ => (.int _)) (ja_cons (j_k fun _ _ _ => (.str _)) (ja_cons (j_k fun _ _ _ => (.str _)) (ja_cons (j_tup ja_nil) (ja_cons (JN.e (jn_lst ja_nil)) (ja_cons (JN.e jn_dict0) (ja_cons (j_tup (ja_cons (j_k fun _ _ _ => (.str _)) ja_nil)) (ja_cons (j_tup (ja_cons (j_tup (ja_cons (j_k fun _ _ _ => (.str _)) ja_nil)) (ja_cons (j_k fun _ _ _ => .non) ja_nil))) (ja_cons (JN.e (jn_lst (ja_cons (j_tup (ja_cons (j_k fun _ _ _ => (.str _)) ja_nil)) ja_nil))) (ja_cons (j_tup (ja_cons (j_tup ja_nil) ja_nil)) ja_nil))))))))))))))) (js_ret (j_bin o2_ix (JE.x (j_var 6)) (JE.x (j_app jd (ja_cons (j_var 0) (ja_cons (j_k fun _ _ _ => (.int _)) ja_nil))))))) js_next) (js_seq (js_set 3 (j_app jd (ja_cons (j_var 0) (ja_cons (j_b1 o1_len (JE.x (j_var 1))) ja_nil)))) (js_seq (js_set 4 (j_bin o2_ix (JE.x (j_var 1)) (JE.x (j_var 3)))) (js_seq (js_set 5 (j_app jd (ja_cons (j_var 0) (ja_cons (j_b1 o1_len (JE.x (j_var 4))) ja_nil)))) (js_seq (js_if (jt_b (j_bin o2_lt (JE.x (j_var 2)) (JE.x (j_k fun _ _ _ => (.int _))))) (js_seq (js_set 7 (j_bin o2_add (JE.x (j_bin o2_add (JE.x (j_sl (JE.x (j_var 4)) jo_none (jo_some (j_var 5)))) (JE.x (j_tup (ja_cons (j_app (j__law_odd jd) (ja_cons (j_var 0) (ja_cons (j_bin o2_ix (JE.x (j_var 4)) (JE.x (j_var 5))) ja_nil))) ja_nil))))) (JE.x (j_sl (JE.x (j_var 4)) (jo_some (j_bin o2_add (JE.x (j_var 5)) (JE.x (j_k fun _ _ _ => (.int _))))) jo_none)))) (js_ret (j_bin o2_add (JE.x (j_bin o2_add (JE.x (j_sl (JE.x (j_var 1)) jo_none (jo_some (j_var 3)))) (JE.x (j_tup (ja_cons (j_var 7) ja_nil))))) (JE.x (j_sl (JE.x (j_var 1)) (jo_some (j_bin o2_add (JE.x (j_var 3)) (JE.x (j_k fun _ _ _ => (.int _))))) jo_none))))) js_next) (js_seq (js_if (jt_b (j_bin o2_eq (JE.x (j_var 2)) (JE.x (j_k fun _ _ _ => (.int _))))) (js_seq (js_set 6 (JN.e (jn_lst (ja_cons (j_sl (JE.x (j_var 4)) jo_none (jo_some (j_neg (j_k fun _ _ _ => (.int _))))) (ja_cons (j_bin o2_add (JE.x (j_var 4)) (JE.x (j_tup (ja_cons (j_k fun _ _ _ => (.int _)) ja_nil)))) (ja_cons (JN.e (jn_b1 o1n_list (JE.x (j_var 4)))) (ja_cons (j_bin o2_ix (JE.x (j_var 4)) (JE.x (j_k fun _ _ _ => (.int _)))) (ja_cons (j_k fun _ _ _ => .non) (ja_cons (j_tup (ja_cons (j_var 4) ja_nil)) (ja_cons (j_revA (JE.x (j_var 4))) (ja_cons (j_bin o2_add (JE.x (j_var 4)) (JE.x (j_tup (ja_cons (j_k fun _ _ _ => (.str _)) ja_nil)))) ja_nil))))))))))) (js_ret (j_bin o2_add (JE.x (j_bin o2_add (JE.x (j_sl (JE.x (j_var 1)) jo_none (jo_some (j_var 3)))) (JE.x (j_tup (ja_cons (j_bin o2_ix (JE.x (j_var 6)) (JE.x (j_app jd (ja_cons (j_var 0) (ja_cons (j_k fun _ _ _ => (.int _)) ja_nil))))) ja_nil))))) (JE.x (j_sl (JE.x (j_var 1)) (jo_some (j_bin o2_add (JE.x (j_var 3)) (JE.x (j_k fun _ _ _ => (.int _))))) jo_none))))) js_next) (js_seq (js_if (jt_b (j_bin o2_eq (JE.x (j_var 2)) (JE.x (j_k fun _ _ _ => (.int _))))) (js_ret (j_bin o2_ix (JE.x (JN.e (jn_lst (ja_cons (j_bin o2_mulA (JE.x (j_var 1)) (JE.x (j_k fun _ _ _ => (.int _)))) (ja_cons (j_bin o2_add (JE.x (j_sl (JE.x (j_var 1)) jo_none (jo_some (j_var 3)))) (JE.x (j_sl (JE.x (j_var 1)) (jo_some (j_bin o2_add (JE.x (j_var 3)) (JE.x (j_k fun _ _ _ => (.int _))))) jo_none))) (ja_cons (j_bin o2_add (JE.x (j_sl (JE.x (j_var 1)) jo_none (jo_some (j_bin o2_add (JE.x (j_var 3)) (JE.x (j_k fun _ _ _ => (.int _))))))) (JE.x (j_sl (JE.x (j_var 1)) (jo_some (j_var 3)) jo_none))) (ja_cons (JN.e (jn_b1 o1n_list (JE.x (j_var 1)))) ja_nil))))))) (JE.x (j_app jd (ja_cons (j_var 0) (ja_cons (j_k fun _ _ _ => (.int _)) ja_nil)))))) js_next) (js_ret (j_bin o2_ix (JE.x (JN.e (jn_lst (ja_cons (j_sl (JE.x (j_bin o2_mulA (JE.x (j_var 1)) (JE.x (j_k fun _ _ _ => (.int _))))) jo_none (jo_some (j_k fun _ _ _ => (.int _)))) (ja_cons (j_sl (JE.x (j_bin o2_mulA (JE.x (j_var 1)) (JE.x (j_k fun _ _ _ => (.int _))))) jo_none (jo_some (j_k fun _ _ _ => (.int _)))) (ja_cons (j_tup (ja_cons (j_var 1) ja_nil)) ja_nil)))))) (JE.x (j_app jd (ja_cons (j_var 0) (ja_cons (j_k fun _ _ _ => (.int _)) ja_nil)))))))))))))))
noncomputable def WB_is_tuple_of : WS := (wsRet (wAnd2 (wIsi .tup (wVar 0)) (wChain vLe vLe (wVar 1) (wB1 vLen (wVar 0)) (wVar 2))))
noncomputable def W_is_tuple_of : WF := wFn 3 3 WB_is_tuple_of
theorem j_is_tuple_of (jd : JF S F__law_take wDraw) : JF S F_is_tuple_of W_is_tuple_of := jf_of (O' := []) ((js_ret (j_and (j_isi .tup (JE.x (j_var 0))) (j_chain o2_le o2_le (JE.x (j_var 1)) (JE.x (j_b1 o1_len (JE.x (j_var 0)))) (JE.x (j_var 2))))))
noncomputable def WB_is_whole : WS := (wsRet (wAnd2 (wIsi .int (wVar 0)) (wNot1 (wIsi .bl (wVar 0)))))
noncomputable def W_is_whole : WF := wFn 1 1 WB_is_whole
theorem j_is_whole (jd : JF S F__law_take wDraw) : JF S F_is_whole W_is_whole := jf_of (O' := []) ((js_ret (j_and (j_isi .int (JE.x (j_var 0))) (j_not (j_isi .bl (JE.x (j_var 0)))))))
noncomputable def WB_is_below : WS := (wsRet (wAnd2 (wApp W_is_whole (wCons (wVar 0) wNil)) (wChain vLe vLt (wK (.int 0)) (wVar 0) (wVar 1))))
noncomputable def W_is_below : WF := wFn 2 2 WB_is_below
theorem j_is_below (jd : JF S F__law_take wDraw) : JF S F_is_below W_is_below := jf_of (O' := []) ((js_ret (j_and (j_app (j_is_whole jd) (ja_cons (j_var 0) ja_nil)) (j_chain o2_le o2_lt (JE.x (j_k fun _ _ _ => (.int _))) (JE.x (j_var 0)) (JE.x (j_var 1))))))
noncomputable def WB_are_numbers : WS := (wsRet (wB1 vAll (wLC (wSeq (wVar 0)) [1] (wgSet 1) wtTrue (wApp W_is_below (wCons (wVar 1) (wCons (wK (.int 10)) wNil))))))
noncomputable def W_are_numbers : WF := wFn 1 2 WB_are_numbers
theorem j_are_numbers (jd : JF S F__law_take wDraw) : JF S F_are_numbers W_are_numbers := jf_of (O' := []) ((js_ret (j_b1 o1_all (JE.x (JN.e (jn_lc (by decide) (ji_seq (JE.x (j_var 0))) (jg_set 1) jt_true (j_app (j_is_below jd) (ja_cons (j_var 1) (ja_cons (j_k fun _ _ _ => (.int _)) ja_nil)))))))))
noncomputable def WB_are_told_pairs : WS := (wsSeq (wsIf (wtNot (wB (wApp W_is_tuple_of (wCons (wVar 0) (wCons (wK (.int 1)) (wCons (wK (.int 9)) wNil)))))) (wsRet (wK (.bl false))) wsNext) (wsRet (wB1 vAll (wLC (wSeq (wVar 0)) [1] (wgSet 1) wtTrue (wAnd2 (wApp W_is_tuple_of (wCons (wVar 1) (wCons (wK (.int 2)) (wCons (wK (.int 2)) wNil)))) (wApp W_are_numbers (wCons (wVar 1) wNil)))))))
noncomputable def W_are_told_pairs : WF := wFn 1 2 WB_are_told_pairs
theorem j_are_told_pairs (jd : JF S F__law_take wDraw) : JF S F_are_told_pairs W_are_told_pairs := jf_of (O' := []) ((js_seq (js_if (jt_not (jt_b (j_app (j_is_tuple_of jd) (ja_cons (j_var 0) (ja_cons (j_k fun _ _ _ => (.int _)) (ja_cons (j_k fun _ _ _ => (.int _)) ja_nil)))))) (js_ret (j_k fun _ _ _ => (.bl _))) js_next) (js_ret (j_b1 o1_all (JE.x (JN.e (jn_lc (by decide) (ji_seq (JE.x (j_var 0))) (jg_set 1) jt_true (j_and (j_app (j_is_tuple_of jd) (ja_cons (j_var 1) (ja_cons (j_k fun _ _ _ => (.int _)) (ja_cons (j_k fun _ _ _ => (.int _)) ja_nil)))) (j_app (j_are_numbers jd) (ja_cons (j_var 1) ja_nil))))))))))
noncomputable def WB_common_divisor : WS := (wsSeq (wsSet 0 (wB1 vAbs (wVar 0))) (wsSeq (wsSet 1 (wB1 vAbs (wVar 1))) (wsSeq (wsWhile (mIntT 1) (wB (wBin vNe (wVar 1) (wK (.int 0)))) (wsPar 0 1 (wVar 1) (wBin vMod (wVar 0) (wVar 1)))) (wsRet (wVar 0)))))
noncomputable def W_common_divisor : WF := wFn 2 2 WB_common_divisor
theorem j_common_divisor (jd : JF S F__law_take wDraw) : JF S F_common_divisor W_common_divisor := jf_of (O' := []) ((js_seq (js_set 0 (j_b1 o1_abs (JE.x (j_var 0)))) (js_seq (js_set 1 (j_b1 o1_abs (JE.x (j_var 1)))) (js_seq (js_while 1 (jt_b (j_bin o2_ne (JE.x (j_var 1)) (JE.x (j_k fun _ _ _ => (.int _))))) (js_par 0 1 (j_var 1) (j_bin o2_mod (JE.x (j_var 0)) (JE.x (j_var 1))))) (js_ret (j_var 0))))))
noncomputable def WB_is_share : WS := (wsSeq (wsIf (wtNot (wB (wApp W_is_tuple_of (wCons (wVar 0) (wCons (wK (.int 2)) (wCons (wK (.int 2)) wNil)))))) (wsRet (wK (.bl false))) wsNext) (wsSeq (wsAsg (wVar 0) (wgSeq 2 (wgCons (wgSet 1) (wgCons (wgSet 2) wgNil)))) (wsSeq (wsIf (wtOr (wtNot (wB (wApp W_is_whole (wCons (wVar 1) wNil)))) (wtNot (wB (wApp W_is_whole (wCons (wVar 2) wNil))))) (wsRet (wK (.bl false))) wsNext) (wsRet (wAnd2 (wBin vGe (wVar 2) (wK (.int 1))) (wBin vEq (wApp W_common_divisor (wCons (wVar 1) (wCons (wVar 2) wNil))) (wK (.int 1))))))))
noncomputable def W_is_share : WF := wFn 1 3 WB_is_share
theorem j_is_share (jd : JF S F__law_take wDraw) : JF S F_is_share W_is_share := jf_of (O' := []) ((js_seq (js_if (jt_not (jt_b (j_app (j_is_tuple_of jd) (ja_cons (j_var 0) (ja_cons (j_k fun _ _ _ => (.int _)) (ja_cons (j_k fun _ _ _ => (.int _)) ja_nil)))))) (js_ret (j_k fun _ _ _ => (.bl _))) js_next) (js_seq (js_asg (j_var 0) (jg_seq (jgs_cons (jg_set 1) (jgs_cons (jg_set 2) jgs_nil)))) (js_seq (js_if (jt_or (jt_not (jt_b (j_app (j_is_whole jd) (ja_cons (j_var 1) ja_nil)))) (jt_not (jt_b (j_app (j_is_whole jd) (ja_cons (j_var 2) ja_nil))))) (js_ret (j_k fun _ _ _ => (.bl _))) js_next) (js_ret (j_and (j_bin o2_ge (JE.x (j_var 2)) (JE.x (j_k fun _ _ _ => (.int _)))) (j_bin o2_eq (JE.x (j_app (j_common_divisor jd) (ja_cons (j_var 1) (ja_cons (j_var 2) ja_nil)))) (JE.x (j_k fun _ _ _ => (.int _))))))))))
noncomputable def WB_is_program_line : WS := (wsSeq (wsIf (wtNot (wB (wApp W_is_tuple_of (wCons (wVar 0) (wCons (wK (.int 1)) (wCons (wK (.int 4)) wNil)))))) (wsRet (wK (.bl false))) wsNext) (wsSeq (wsSet 1 (wBin vIx (wVar 0) (wK (.int 0)))) (wsSeq (wsSet 2 (wB1 vLen (wVar 0))) (wsSeq (wsIf (wtOr (wB (wBin vEqS (wVar 1) (wK (.str "weight")))) (wB (wBin vEqS (wVar 1) (wK (.str "lot"))))) (wsRet (wBin vEq (wVar 2) (wK (.int 1)))) wsNext) (wsSeq (wsIf (wtOr (wB (wBin vEqS (wVar 1) (wK (.str "forget")))) (wB (wBin vEqS (wVar 1) (wK (.str "carries"))))) (wsRet (wAnd2 (wBin vEq (wVar 2) (wK (.int 3))) (wApp W_are_numbers (wCons (wSl (wVar 0) (woSome (wK (.int 1))) woNone) wNil)))) wsNext) (wsSeq (wsIf (wB (wBin vEqS (wVar 1) (wK (.str "gap")))) (wsRet (wAnd2 (wBin vEq (wVar 2) (wK (.int 3))) (wAnd2 (wApp W_are_numbers (wCons (wSl (wVar 0) (woSome (wK (.int 1))) (woSome (wK (.int 2)))) wNil)) (wApp W_is_share (wCons (wBin vIx (wVar 0) (wK (.int 2))) wNil))))) wsNext) (wsRet (wAnd2 (wBin vEqS (wVar 1) (wK (.str "see"))) (wAnd2 (wBin vEq (wVar 2) (wK (.int 4))) (wAnd2 (wApp W_are_numbers (wCons (wSl (wVar 0) (woSome (wK (.int 1))) (woSome (wK (.int 3)))) wNil)) (wApp W_are_told_pairs (wCons (wBin vIx (wVar 0) (wK (.int 3))) wNil))))))))))))
noncomputable def W_is_program_line : WF := wFn 1 3 WB_is_program_line
theorem j_is_program_line (jd : JF S F__law_take wDraw) : JF S F_is_program_line W_is_program_line := jf_of (O' := []) ((js_seq (js_if (jt_not (jt_b (j_app (j_is_tuple_of jd) (ja_cons (j_var 0) (ja_cons (j_k fun _ _ _ => (.int _)) (ja_cons (j_k fun _ _ _ => (.int _)) ja_nil)))))) (js_ret (j_k fun _ _ _ => (.bl _))) js_next) (js_seq (js_set 1 (j_bin o2_ix (JE.x (j_var 0)) (JE.x (j_k fun _ _ _ => (.int _))))) (js_seq (js_set 2 (j_b1 o1_len (JE.x (j_var 0)))) (js_seq (js_if (jt_or (jt_b (j_bin o2_eqS (JE.x (j_var 1)) (JE.x (j_k fun _ _ _ => (.str _))))) (jt_b (j_bin o2_eqS (JE.x (j_var 1)) (JE.x (j_k fun _ _ _ => (.str _)))))) (js_ret (j_bin o2_eq (JE.x (j_var 2)) (JE.x (j_k fun _ _ _ => (.int _))))) js_next) (js_seq (js_if (jt_or (jt_b (j_bin o2_eqS (JE.x (j_var 1)) (JE.x (j_k fun _ _ _ => (.str _))))) (jt_b (j_bin o2_eqS (JE.x (j_var 1)) (JE.x (j_k fun _ _ _ => (.str _)))))) (js_ret (j_and (j_bin o2_eq (JE.x (j_var 2)) (JE.x (j_k fun _ _ _ => (.int _)))) (j_app (j_are_numbers jd) (ja_cons (j_sl (JE.x (j_var 0)) (jo_some (j_k fun _ _ _ => (.int _))) jo_none) ja_nil)))) js_next) (js_seq (js_if (jt_b (j_bin o2_eqS (JE.x (j_var 1)) (JE.x (j_k fun _ _ _ => (.str _))))) (js_ret (j_and (j_bin o2_eq (JE.x (j_var 2)) (JE.x (j_k fun _ _ _ => (.int _)))) (j_and (j_app (j_are_numbers jd) (ja_cons (j_sl (JE.x (j_var 0)) (jo_some (j_k fun _ _ _ => (.int _))) (jo_some (j_k fun _ _ _ => (.int _)))) ja_nil)) (j_app (j_is_share jd) (ja_cons (j_bin o2_ix (JE.x (j_var 0)) (JE.x (j_k fun _ _ _ => (.int _)))) ja_nil))))) js_next) (js_ret (j_and (j_bin o2_eqS (JE.x (j_var 1)) (JE.x (j_k fun _ _ _ => (.str _)))) (j_and (j_bin o2_eq (JE.x (j_var 2)) (JE.x (j_k fun _ _ _ => (.int _)))) (j_and (j_app (j_are_numbers jd) (ja_cons (j_sl (JE.x (j_var 0)) (jo_some (j_k fun _ _ _ => (.int _))) (jo_some (j_k fun _ _ _ => (.int _)))) ja_nil)) (j_app (j_are_told_pairs jd) (ja_cons (j_bin o2_ix (JE.x (j_var 0)) (JE.x (j_k fun _ _ _ => (.int _)))) ja_nil)))))))))))))
noncomputable def WB_is_program : WS := (wsRet (wAnd2 (wApp W_is_tuple_of (wCons (wVar 0) (wCons (wK (.int 0)) (wCons (wK (.int 12)) wNil)))) (wB1 vAll (wLC (wSeq (wVar 0)) [1] (wgSet 1) wtTrue (wApp W_is_program_line (wCons (wVar 1) wNil))))))
noncomputable def W_is_program : WF := wFn 1 2 WB_is_program
theorem j_is_program (jd : JF S F__law_take wDraw) : JF S F_is_program W_is_program := jf_of (O' := []) ((js_ret (j_and (j_app (j_is_tuple_of jd) (ja_cons (j_var 0) (ja_cons (j_k fun _ _ _ => (.int _)) (ja_cons (j_k fun _ _ _ => (.int _)) ja_nil)))) (j_b1 o1_all (JE.x (JN.e (jn_lc (by decide) (ji_seq (JE.x (j_var 0))) (jg_set 1) jt_true (j_app (j_is_program_line jd) (ja_cons (j_var 1) ja_nil)))))))))
noncomputable def WB__law_is_number : WS := (wsRet (wAnd2 (wIsi .int (wVar 0)) (wAnd2 (wNot1 (wIsi .bl (wVar 0))) (wChain vLe vLe (wK (.int 0)) (wVar 0) (wK (.int 9))))))
noncomputable def W__law_is_number : WF := wFn 1 1 WB__law_is_number
theorem j__law_is_number (jd : JF S F__law_take wDraw) : JF S F__law_is_number W__law_is_number := jf_of (O' := []) ((js_ret (j_and (j_isi .int (JE.x (j_var 0))) (j_and (j_not (j_isi .bl (JE.x (j_var 0)))) (j_chain o2_le o2_le (JE.x (j_k fun _ _ _ => (.int _))) (JE.x (j_var 0)) (JE.x (j_k fun _ _ _ => (.int _))))))))
noncomputable def WB__law_are_pairs : WS := (wsSeq (wsIf (wtOr (wtNot (wB (wIsi .tup (wVar 0)))) (wtNot (wB (wChain vLe vLe (wK (.int 1)) (wB1 vLen (wVar 0)) (wK (.int 9)))))) (wsRet (wK (.bl false))) wsNext) (wsSeq (wsFor (wSeq (wVar 0)) (wgSet 1) (wsSeq (wsIf (wtOr (wtNot (wB (wIsi .tup (wVar 1)))) (wB (wBin vNe (wB1 vLen (wVar 1)) (wK (.int 2))))) (wsRet (wK (.bl false))) wsNext) (wsIf (wtOr (wtNot (wB (wApp W__law_is_number (wCons (wBin vIx (wVar 1) (wK (.int 0))) wNil)))) (wtNot (wB (wApp W__law_is_number (wCons (wBin vIx (wVar 1) (wK (.int 1))) wNil))))) (wsRet (wK (.bl false))) wsNext))) (wsRet (wK (.bl true)))))
noncomputable def W__law_are_pairs : WF := wFn 1 2 WB__law_are_pairs
theorem j__law_are_pairs (jd : JF S F__law_take wDraw) : JF S F__law_are_pairs W__law_are_pairs := jf_of (O' := []) ((js_seq (js_if (jt_or (jt_not (jt_b (j_isi .tup (JE.x (j_var 0))))) (jt_not (jt_b (j_chain o2_le o2_le (JE.x (j_k fun _ _ _ => (.int _))) (JE.x (j_b1 o1_len (JE.x (j_var 0)))) (JE.x (j_k fun _ _ _ => (.int _))))))) (js_ret (j_k fun _ _ _ => (.bl _))) js_next) (js_seq (js_for (jis_seq (j_var 0)) (jg_set 1) (js_seq (js_if (jt_or (jt_not (jt_b (j_isi .tup (JE.x (j_var 1))))) (jt_b (j_bin o2_ne (JE.x (j_b1 o1_len (JE.x (j_var 1)))) (JE.x (j_k fun _ _ _ => (.int _)))))) (js_ret (j_k fun _ _ _ => (.bl _))) js_next) (js_if (jt_or (jt_not (jt_b (j_app (j__law_is_number jd) (ja_cons (j_bin o2_ix (JE.x (j_var 1)) (JE.x (j_k fun _ _ _ => (.int _)))) ja_nil)))) (jt_not (jt_b (j_app (j__law_is_number jd) (ja_cons (j_bin o2_ix (JE.x (j_var 1)) (JE.x (j_k fun _ _ _ => (.int _)))) ja_nil))))) (js_ret (j_k fun _ _ _ => (.bl _))) js_next))) (js_ret (j_k fun _ _ _ => (.bl _))))))
noncomputable def WB__law_common : WS := (wsSeq (wsPar 0 1 (wB1 vAbs (wVar 0)) (wB1 vAbs (wVar 1))) (wsSeq (wsWhile (mIntT 1) (wB (wBin vGt (wVar 1) (wK (.int 0)))) (wsPar 0 1 (wVar 1) (wBin vMod (wVar 0) (wVar 1)))) (wsRet (wVar 0))))
noncomputable def W__law_common : WF := wFn 2 2 WB__law_common
theorem j__law_common (jd : JF S F__law_take wDraw) : JF S F__law_common W__law_common := jf_of (O' := []) ((js_seq (js_par 0 1 (j_b1 o1_abs (JE.x (j_var 0))) (j_b1 o1_abs (JE.x (j_var 1)))) (js_seq (js_while 1 (jt_b (j_bin o2_gt (JE.x (j_var 1)) (JE.x (j_k fun _ _ _ => (.int _))))) (js_par 0 1 (j_var 1) (j_bin o2_mod (JE.x (j_var 0)) (JE.x (j_var 1))))) (js_ret (j_var 0)))))
noncomputable def WB__law_is_share : WS := (wsSeq (wsIf (wtOr (wtNot (wB (wIsi .tup (wVar 0)))) (wB (wBin vNe (wB1 vLen (wVar 0)) (wK (.int 2))))) (wsRet (wK (.bl false))) wsNext) (wsSeq (wsIf (wtOr (wB (wBin (vEqL true) (wLC (wSeq (wVar 0)) [1] (wgSet 1) (wtOr (wtNot (wB (wIsi .int (wVar 1)))) (wB (wIsi .bl (wVar 1)))) (wVar 1)) (wLst wNil))) (wB (wBin vLt (wBin vIx (wVar 0) (wK (.int 1))) (wK (.int 1))))) (wsRet (wK (.bl false))) wsNext) (wsRet (wBin vEq (wApp W__law_common (wCons (wBin vIx (wVar 0) (wK (.int 0))) (wCons (wBin vIx (wVar 0) (wK (.int 1))) wNil))) (wK (.int 1))))))
noncomputable def W__law_is_share : WF := wFn 1 2 WB__law_is_share
theorem j__law_is_share (jd : JF S F__law_take wDraw) : JF S F__law_is_share W__law_is_share := jf_of (O' := []) ((js_seq (js_if (jt_or (jt_not (jt_b (j_isi .tup (JE.x (j_var 0))))) (jt_b (j_bin o2_ne (JE.x (j_b1 o1_len (JE.x (j_var 0)))) (JE.x (j_k fun _ _ _ => (.int _)))))) (js_ret (j_k fun _ _ _ => (.bl _))) js_next) (js_seq (js_if (jt_or (jt_b (j_bin (o2_eqL true) (JE.x (JN.e (jn_lc (by decide) (ji_seq (JE.x (j_var 0))) (jg_set 1) (jt_or (jt_not (jt_b (j_isi .int (JE.x (j_var 1))))) (jt_b (j_isi .bl (JE.x (j_var 1))))) (j_var 1)))) (JE.x (JN.e (jn_lst ja_nil))))) (jt_b (j_bin o2_lt (JE.x (j_bin o2_ix (JE.x (j_var 0)) (JE.x (j_k fun _ _ _ => (.int _))))) (JE.x (j_k fun _ _ _ => (.int _)))))) (js_ret (j_k fun _ _ _ => (.bl _))) js_next) (js_ret (j_bin o2_eq (JE.x (j_app (j__law_common jd) (ja_cons (j_bin o2_ix (JE.x (j_var 0)) (JE.x (j_k fun _ _ _ => (.int _)))) (ja_cons (j_bin o2_ix (JE.x (j_var 0)) (JE.x (j_k fun _ _ _ => (.int _)))) ja_nil)))) (JE.x (j_k fun _ _ _ => (.int _))))))))
noncomputable def WB__law_is_line : WS := (wsSeq (wsIf (wtOr (wtNot (wB (wIsi .tup (wVar 0)))) (wtOr (wB (wBin vEqU (wVar 0) (wTup wNil))) (wtNot (wB (wIsi .str (wBin vIx (wVar 0) (wK (.int 0)))))))) (wsRet (wK (.bl false))) wsNext) (wsSeq (wsIf (wB (wBin (vInD false) (wBin vIx (wVar 0) (wK (.int 0))) (wTup (wCons (wK (.str "weight")) (wCons (wK (.str "lot")) wNil))))) (wsRet (wBin vEq (wB1 vLen (wVar 0)) (wK (.int 1)))) wsNext) (wsSeq (wsIf (wB (wBin vEqS (wBin vIx (wVar 0) (wK (.int 0))) (wK (.str "gap")))) (wsRet (wAnd2 (wBin vEq (wB1 vLen (wVar 0)) (wK (.int 3))) (wAnd2 (wApp W__law_is_number (wCons (wBin vIx (wVar 0) (wK (.int 1))) wNil)) (wApp W__law_is_share (wCons (wBin vIx (wVar 0) (wK (.int 2))) wNil))))) wsNext) (wsSeq (wsSet 1 (wGet2 (wK (.dct [((.str "forget"), (.int 3)), ((.str "carries"), (.int 3)), ((.str "see"), (.int 4))])) (wBin vIx (wVar 0) (wK (.int 0))) (wK (.int 0)))) (wsSeq (wsIf (wtOr (wB (wBin vNe (wB1 vLen (wVar 0)) (wVar 1))) (wtOr (wtNot (wB (wApp W__law_is_number (wCons (wBin vIx (wVar 0) (wK (.int 1))) wNil)))) (wtNot (wB (wApp W__law_is_number (wCons (wBin vIx (wVar 0) (wK (.int 2))) wNil)))))) (wsRet (wK (.bl false))) wsNext) (wsRet (wOr2 (wBin vEq (wVar 1) (wK (.int 3))) (wApp W__law_are_pairs (wCons (wBin vIx (wVar 0) (wK (.int 3))) wNil)))))))))
noncomputable def W__law_is_line : WF := wFn 1 2 WB__law_is_line
theorem j__law_is_line (jd : JF S F__law_take wDraw) : JF S F__law_is_line W__law_is_line := jf_of (O' := []) ((js_seq (js_if (jt_or (jt_not (jt_b (j_isi .tup (JE.x (j_var 0))))) (jt_or (jt_b (j_bin o2_eqU (JE.x (j_var 0)) (JE.x (j_tup ja_nil)))) (jt_not (jt_b (j_isi .str (JE.x (j_bin o2_ix (JE.x (j_var 0)) (JE.x (j_k fun _ _ _ => (.int _)))))))))) (js_ret (j_k fun _ _ _ => (.bl _))) js_next) (js_seq (js_if (jt_b (j_bin (o2_inD false) (JE.x (j_bin o2_ix (JE.x (j_var 0)) (JE.x (j_k fun _ _ _ => (.int _))))) (JE.x (j_tup (ja_cons (j_k fun _ _ _ => (.str _)) (ja_cons (j_k fun _ _ _ => (.str _)) ja_nil)))))) (js_ret (j_bin o2_eq (JE.x (j_b1 o1_len (JE.x (j_var 0)))) (JE.x (j_k fun _ _ _ => (.int _))))) js_next) (js_seq (js_if (jt_b (j_bin o2_eqS (JE.x (j_bin o2_ix (JE.x (j_var 0)) (JE.x (j_k fun _ _ _ => (.int _))))) (JE.x (j_k fun _ _ _ => (.str _))))) (js_ret (j_and (j_bin o2_eq (JE.x (j_b1 o1_len (JE.x (j_var 0)))) (JE.x (j_k fun _ _ _ => (.int _)))) (j_and (j_app (j__law_is_number jd) (ja_cons (j_bin o2_ix (JE.x (j_var 0)) (JE.x (j_k fun _ _ _ => (.int _)))) ja_nil)) (j_app (j__law_is_share jd) (ja_cons (j_bin o2_ix (JE.x (j_var 0)) (JE.x (j_k fun _ _ _ => (.int _)))) ja_nil))))) js_next) (js_seq (js_set 1 (j_get2 (JN.e (jn_dispK (ps := [((.str "forget"), (.int 3)), ((.str "carries"), (.int 3)), ((.str "see"), (.int 4))]) (kvs := [(.inr "forget", (.int 3)), (.inr "carries", (.int 3)), (.inr "see", (.int 4))]) (m := [(.inr "forget", (.int 3)), (.inr "carries", (.int 3)), (.inr "see", (.int 4))]) rfl (by decide) rfl (fun _ _ _ => (.cons (.int _) (.cons (.int _) (.cons (.int _) .nil)))))) (j_bin o2_ix (JE.x (j_var 0)) (JE.x (j_k fun _ _ _ => (.int _)))) (j_k fun _ _ _ => (.int _)))) (js_seq (js_if (jt_or (jt_b (j_bin o2_ne (JE.x (j_b1 o1_len (JE.x (j_var 0)))) (JE.x (j_var 1)))) (jt_or (jt_not (jt_b (j_app (j__law_is_number jd) (ja_cons (j_bin o2_ix (JE.x (j_var 0)) (JE.x (j_k fun _ _ _ => (.int _)))) ja_nil)))) (jt_not (jt_b (j_app (j__law_is_number jd) (ja_cons (j_bin o2_ix (JE.x (j_var 0)) (JE.x (j_k fun _ _ _ => (.int _)))) ja_nil)))))) (js_ret (j_k fun _ _ _ => (.bl _))) js_next) (js_ret (j_or (j_bin o2_eq (JE.x (j_var 1)) (JE.x (j_k fun _ _ _ => (.int _)))) (j_app (j__law_are_pairs jd) (ja_cons (j_bin o2_ix (JE.x (j_var 0)) (JE.x (j_k fun _ _ _ => (.int _)))) ja_nil))))))))))
noncomputable def WB__law_due : WS := (wsSeq (wsIf (wtOr (wtNot (wB (wIsi .tup (wVar 0)))) (wB (wBin vGt (wB1 vLen (wVar 0)) (wK (.int 12))))) (wsRet (wK (.bl false))) wsNext) (wsRet (wBin (vEqL false) (wLC (wSeq (wVar 0)) [1] (wgSet 1) (wtNot (wB (wApp W__law_is_line (wCons (wVar 1) wNil)))) (wVar 1)) (wLst wNil))))
noncomputable def W__law_due : WF := wFn 1 2 WB__law_due
theorem j__law_due (jd : JF S F__law_take wDraw) : JF S F__law_due W__law_due := jf_of (O' := []) ((js_seq (js_if (jt_or (jt_not (jt_b (j_isi .tup (JE.x (j_var 0))))) (jt_b (j_bin o2_gt (JE.x (j_b1 o1_len (JE.x (j_var 0)))) (JE.x (j_k fun _ _ _ => (.int _)))))) (js_ret (j_k fun _ _ _ => (.bl _))) js_next) (js_ret (j_bin (o2_eqL false) (JE.x (JN.e (jn_lc (by decide) (ji_seq (JE.x (j_var 0))) (jg_set 1) (jt_not (jt_b (j_app (j__law_is_line jd) (ja_cons (j_var 1) ja_nil)))) (j_var 1)))) (JE.x (JN.e (jn_lst ja_nil)))))))
noncomputable def WR_law : WS := (wsSeq (wsFor (wR1 (wK (.int 4))) (wgSet 2) (wsSeq (wsSet 3 (wB1 vTuple (wLC (wR1 (wBin vIx (wLst (wCons (wApp wDraw (wCons (wVar 1) (wCons (wK (.int 6)) wNil))) (wCons (wK (.int 12)) (wCons (wK (.int 13)) (wCons (wK (.int 3)) wNil))))) (wApp wDraw (wCons (wVar 1) (wCons (wK (.int 4)) wNil))))) [8] (wgSet 8) wtTrue (wApp W__law_line (wCons (wVar 1) wNil))))) (wsSeq (wsSet 4 (wBin vAdd (wLst (wCons (wVar 3) wNil)) (wLC (wR1 (wK (.int 12))) [8] (wgSet 8) wtTrue (wApp W__law_bent (wCons (wVar 1) (wCons (wVar 3) wNil)))))) (wsFor (wSeq (wBin vAdd (wVar 4) (wSl (wVar 4) woNone (woSome (wK (.int 1)))))) (wgSet 5) (wsSeq (wsSet 6 (wB1 vRepr (wVar 5))) (wsFor (wSeq (wLst (wCons (wApp W_is_program (wCons (wVar 5) wNil)) (wCons (wAppK W_is_program [0] 0 1 wNil (wCons (wVar 5) wNil)) wNil)))) (wgSet 7) (wsIf (wtOr (wtNot (wB (wIsi .bl (wVar 7)))) (wtOr (wB (wBin vNe (wVar 7) (wApp W__law_due (wCons (wVar 5) wNil)))) (wB (wBin vNe (wB1 vRepr (wVar 5)) (wVar 6))))) (wsRet (wK (.bl false))) wsNext))))))) (wsRet (wK (.bl true))))
theorem jr_law (jd : JF S F__law_take wDraw) : JS S false [] [] [] BR_law WR_law := (js_seq (js_for (jis_r1 (j_k fun _ _ _ => (.int _))) (jg_set 2) (js_seq (js_set 3 (j_b1 o1_tuple (JE.x (JN.e (jn_lc (by decide) (JIS.i (jis_r1 (j_bin o2_ix (JE.x (JN.e (jn_lst (ja_cons (j_app jd (ja_cons (j_var 1) (ja_cons (j_k fun _ _ _ => (.int _)) ja_nil))) (ja_cons (j_k fun _ _ _ => (.int _)) (ja_cons (j_k fun _ _ _ => (.int _)) (ja_cons (j_k fun _ _ _ => (.int _)) ja_nil))))))) (JE.x (j_app jd (ja_cons (j_var 1) (ja_cons (j_k fun _ _ _ => (.int _)) ja_nil))))))) (jg_set 8) jt_true (j_app (j__law_line jd) (ja_cons (j_var 1) ja_nil))))))) (js_seq (js_set 4 (j_bin o2_add (JE.x (JN.e (jn_lst (ja_cons (j_var 3) ja_nil)))) (JE.x (JN.e (jn_lc (by decide) (JIS.i (jis_r1 (j_k fun _ _ _ => (.int _)))) (jg_set 8) jt_true (j_app (j__law_bent jd) (ja_cons (j_var 1) (ja_cons (j_var 3) ja_nil)))))))) (js_for (jis_seq (j_bin o2_add (JE.x (j_var 4)) (JE.x (j_sl (JE.x (j_var 4)) jo_none (jo_some (j_k fun _ _ _ => (.int _))))))) (jg_set 5) (js_seq (js_set 6 (j_b1 o1_repr (JE.x (j_var 5)))) (js_for (jis_seq (JN.e (jn_lst (ja_cons (j_app (j_is_program jd) (ja_cons (j_var 5) ja_nil)) (ja_cons (j_appK (j_is_program jd) ja_nil (ja_cons (j_var 5) ja_nil)) ja_nil))))) (jg_set 7) (js_if (jt_or (jt_not (jt_b (j_isi .bl (JE.x (j_var 7))))) (jt_or (jt_b (j_bin o2_ne (JE.x (j_var 7)) (JE.x (j_app (j__law_due jd) (ja_cons (j_var 5) ja_nil))))) (jt_b (j_bin o2_ne (JE.x (j_b1 o1_repr (JE.x (j_var 5)))) (JE.x (j_var 6)))))) (js_ret (j_k fun _ _ _ => (.bl _))) js_next))))))) (js_ret (j_k fun _ _ _ => (.bl _))))
end
end Mine
set_option Elab.async false
set_option linter.all false
set_option autoImplicit false
set_option maxRecDepth 100000
namespace Mine
open PySem PySem.Spec PyProof.Rows L2 EV
set_option maxHeartbeats 1000000
local macro_rules | `(tactic| simp! only [$xs,*]) => `(tactic| simp only [wBin_d, wB2_d, wB1_d, wVar_d, wK_d, wNil_d, wCons_d, wTup_d, wLst_d, wIf_d, wAnd2_d, wOr2_d, wOrT_d, wAndT_d, wNot1_d, wNeg_d, wChain_d, wB_d, wTru_d, wtNot_d, wtAnd_d, wtOr_d, wtTrue_d, woNone_d, woSome_d, wSl_d, wSlL_d, wRevA_d, wApp_d, wAppK_d, wIsi_d, wSeq_d, wR1_d, wR2_d, wEnum_d, wLC_d, wDict0_d, wgSet_d, wgNil_d, wgCons_d, wgSeq_t, wgSeq_l, wsNext_d, wsBrk_d, wsCont_d, wsSeq_d, wsIf_d, wsExpr_d, wsRet_d, wsSet_d, wsPar_d, wsPar3_d, wsAsg_d, wsAppend_d, wsExtend_d, wsReverse_d, wsFor_d, wsWhile_d, wFn_d, wFnN_d, wDraw_d, vSub_d, vLt_d, vLe_d, vGt_d, vGe_d, vMax2_d, vMin2_d, vMul_t, vMul_l, vAdd_d, vAdd_t, vAdd_l, vCat_d, vEq_i, vNe_i, vEq_s, vNe_s, vIx_t, vIx_l, tAt_0, tAt_1, tAt_2, vAbs_d, vLen_t, vLen_l, vTuple_l, vTuple_t, vList_l, vList_t, vInt_b, vInt_i, vNotB_d, vIsN_d, vNotN_d, vIx_sh0, vIx_sh1, vEq_sh, vNe_sh, EV.startT, List.map_cons, List.map_nil, List.length_cons, List.length_nil, List.replicate_succ, List.replicate_zero, List.nil_append, List.cons_append, List.append_nil, List.getElem?_cons_zero, List.getElem?_cons_succ, List.set_cons_zero, List.set_cons_succ, Nat.reduceAdd, Nat.reduceSub, Nat.zero_add, wipeT, mIntT, sel, List.filterMap_cons, List.filterMap_nil, Bool.false_eq_true, if_false, if_true, true_and, and_true, and_self, Bool.and_self, Bool.not_true, Bool.not_false, decide_true, decide_false, Option.getD_some, $xs,*])
local macro_rules | `(tactic| simp! only [$xs,*] $l:location) => `(tactic| simp only [wBin_d, wB2_d, wB1_d, wVar_d, wK_d, wNil_d, wCons_d, wTup_d, wLst_d, wIf_d, wAnd2_d, wOr2_d, wOrT_d, wAndT_d, wNot1_d, wNeg_d, wChain_d, wB_d, wTru_d, wtNot_d, wtAnd_d, wtOr_d, wtTrue_d, woNone_d, woSome_d, wSl_d, wSlL_d, wRevA_d, wApp_d, wAppK_d, wIsi_d, wSeq_d, wR1_d, wR2_d, wEnum_d, wLC_d, wDict0_d, wgSet_d, wgNil_d, wgCons_d, wgSeq_t, wgSeq_l, wsNext_d, wsBrk_d, wsCont_d, wsSeq_d, wsIf_d, wsExpr_d, wsRet_d, wsSet_d, wsPar_d, wsPar3_d, wsAsg_d, wsAppend_d, wsExtend_d, wsReverse_d, wsFor_d, wsWhile_d, wFn_d, wFnN_d, wDraw_d, vSub_d, vLt_d, vLe_d, vGt_d, vGe_d, vMax2_d, vMin2_d, vMul_t, vMul_l, vAdd_d, vAdd_t, vAdd_l, vCat_d, vEq_i, vNe_i, vEq_s, vNe_s, vIx_t, vIx_l, tAt_0, tAt_1, tAt_2, vAbs_d, vLen_t, vLen_l, vTuple_l, vTuple_t, vList_l, vList_t, vInt_b, vInt_i, vNotB_d, vIsN_d, vNotN_d, vIx_sh0, vIx_sh1, vEq_sh, vNe_sh, EV.startT, List.map_cons, List.map_nil, List.length_cons, List.length_nil, List.replicate_succ, List.replicate_zero, List.nil_append, List.cons_append, List.append_nil, List.getElem?_cons_zero, List.getElem?_cons_succ, List.set_cons_zero, List.set_cons_succ, Nat.reduceAdd, Nat.reduceSub, Nat.zero_add, wipeT, mIntT, sel, List.filterMap_cons, List.filterMap_nil, Bool.false_eq_true, if_false, if_true, true_and, and_true, and_self, Bool.and_self, Bool.not_true, Bool.not_false, decide_true, decide_false, Option.getD_some, $xs,*] $l:location)
local macro_rules | `(tactic| dsimp! only [$xs,*]) => `(tactic| simp only [wBin_d, wB2_d, wB1_d, wVar_d, wK_d, wNil_d, wCons_d, wTup_d, wLst_d, wIf_d, wAnd2_d, wOr2_d, wOrT_d, wAndT_d, wNot1_d, wNeg_d, wChain_d, wB_d, wTru_d, wtNot_d, wtAnd_d, wtOr_d, wtTrue_d, woNone_d, woSome_d, wSl_d, wSlL_d, wRevA_d, wApp_d, wAppK_d, wIsi_d, wSeq_d, wR1_d, wR2_d, wEnum_d, wLC_d, wDict0_d, wgSet_d, wgNil_d, wgCons_d, wgSeq_t, wgSeq_l, wsNext_d, wsBrk_d, wsCont_d, wsIf_d, wsExpr_d, wsRet_d, wsSet_d, wsPar_d, wsPar3_d, wsAsg_d, wsAppend_d, wsExtend_d, wsReverse_d, wsFor_d, wsWhile_d, wFn_d, wFnN_d, wDraw_d, vSub_d, vLt_d, vLe_d, vGt_d, vGe_d, vMax2_d, vMin2_d, vMul_t, vMul_l, vAdd_d, vAdd_t, vAdd_l, vCat_d, vEq_i, vNe_i, vEq_s, vNe_s, vIx_t, vIx_l, tAt_0, tAt_1, tAt_2, vAbs_d, vLen_t, vLen_l, vTuple_l, vTuple_t, vList_l, vList_t, vInt_b, vInt_i, vNotB_d, vIsN_d, vNotN_d, vIx_sh0, vIx_sh1, vEq_sh, vNe_sh, EV.startT, List.map_cons, List.map_nil, List.length_cons, List.length_nil, List.replicate_succ, List.replicate_zero, List.nil_append, List.cons_append, List.append_nil, List.getElem?_cons_zero, List.getElem?_cons_succ, List.set_cons_zero, List.set_cons_succ, Nat.reduceAdd, Nat.reduceSub, Nat.zero_add, wipeT, mIntT, sel, List.filterMap_cons, List.filterMap_nil, Bool.false_eq_true, if_false, if_true, true_and, and_true, and_self, Bool.and_self, Bool.not_true, Bool.not_false, decide_true, decide_false, Option.getD_some, $xs,*])
local macro_rules | `(tactic| dsimp! only [$xs,*] $l:location) => `(tactic| simp only [wBin_d, wB2_d, wB1_d, wVar_d, wK_d, wNil_d, wCons_d, wTup_d, wLst_d, wIf_d, wAnd2_d, wOr2_d, wOrT_d, wAndT_d, wNot1_d, wNeg_d, wChain_d, wB_d, wTru_d, wtNot_d, wtAnd_d, wtOr_d, wtTrue_d, woNone_d, woSome_d, wSl_d, wSlL_d, wRevA_d, wApp_d, wAppK_d, wIsi_d, wSeq_d, wR1_d, wR2_d, wEnum_d, wLC_d, wDict0_d, wgSet_d, wgNil_d, wgCons_d, wgSeq_t, wgSeq_l, wsNext_d, wsBrk_d, wsCont_d, wsIf_d, wsExpr_d, wsRet_d, wsSet_d, wsPar_d, wsPar3_d, wsAsg_d, wsAppend_d, wsExtend_d, wsReverse_d, wsFor_d, wsWhile_d, wFn_d, wFnN_d, wDraw_d, vSub_d, vLt_d, vLe_d, vGt_d, vGe_d, vMax2_d, vMin2_d, vMul_t, vMul_l, vAdd_d, vAdd_t, vAdd_l, vCat_d, vEq_i, vNe_i, vEq_s, vNe_s, vIx_t, vIx_l, tAt_0, tAt_1, tAt_2, vAbs_d, vLen_t, vLen_l, vTuple_l, vTuple_t, vList_l, vList_t, vInt_b, vInt_i, vNotB_d, vIsN_d, vNotN_d, vIx_sh0, vIx_sh1, vEq_sh, vNe_sh, EV.startT, List.map_cons, List.map_nil, List.length_cons, List.length_nil, List.replicate_succ, List.replicate_zero, List.nil_append, List.cons_append, List.append_nil, List.getElem?_cons_zero, List.getElem?_cons_succ, List.set_cons_zero, List.set_cons_succ, Nat.reduceAdd, Nat.reduceSub, Nat.zero_add, wipeT, mIntT, sel, List.filterMap_cons, List.filterMap_nil, Bool.false_eq_true, if_false, if_true, true_and, and_true, and_self, Bool.and_self, Bool.not_true, Bool.not_false, decide_true, decide_false, Option.getD_some, $xs,*] $l:location)
theorem is_whole_eq {x : T} (hx : x.nopen = true) {c : Nat} {Q : QT} : W_is_whole [x] c Q = Q (.bl x.isInt) c := by
  unfold W_is_whole WB_is_whole
  obtain ⟨y, e⟩ := T.ty_of hx
  simp! only [e]
  cases x <;> cases e <;> rfl
theorem is_below_eq {x : T} (hx : x.nopen = true) {n : Int} {c : Nat} {Q : QT} : W_is_below [x, .int n] c Q = Q (.bl (x.belowB n)) c := by
  unfold W_is_below WB_is_below
  simp! only [is_whole_eq hx]
  cases x with
  | int i =>
    simp! only [T.isInt, T.belowB]
    by_cases q : 0 ≤ i
    · simp only [decide_eq_true q, Bool.true_and]
    · simp only [decide_eq_false q, Bool.false_and]
  | _ => simp only [T.isInt, T.belowB]
theorem is_tuple_of_eq {x : T} (hx : x.nopen = true) {a b : Int} {c : Nat} {Q : QT} : W_is_tuple_of [x, .int a, .int b] c Q = Q (.bl (x.tupB a b)) c := by
  unfold W_is_tuple_of WB_is_tuple_of
  obtain ⟨y, e⟩ := T.ty_of hx
  simp! only [e]
  cases x with
  | tup xs =>
    cases e
    simp! only [isSub, T.tupB, Bool.true_or]
    by_cases q : a ≤ (xs.length : Int)
    · simp only [decide_eq_true q, Bool.true_and]
    · simp only [decide_eq_false q, Bool.false_and]
  | _ => first | (cases e; rfl) | cases e
theorem common_divisor_eq {a b : Int} {c : Nat} {Q : QT} : W_common_divisor [.int a, .int b] c Q = Q (.int (Int.gcd a b)) c := by
  have w := euclidT (θ := (wB (wBin vNe (wVar 1) (wK (.int 0))))) (β := wsPar 0 1 (wVar 1) (wBin vMod (wVar 0) (wVar 1))) (fun n m => [some (.int n), some (.int m)])
    (fun n m c K hn hm => by simp! only []; congr 1; by_cases q : m = 0 <;> simp [q])
    (fun n m c K hn hm => by simp (disch := omega) only [wBin_d, wB2_d, wB1_d, wVar_d, wK_d, wNil_d, wCons_d, wTup_d, wLst_d, wIf_d, wAnd2_d, wOr2_d, wOrT_d, wAndT_d, wNot1_d, wNeg_d, wChain_d, wB_d, wTru_d, wtNot_d, wtAnd_d, wtOr_d, wtTrue_d, woNone_d, woSome_d, wSl_d, wSlL_d, wRevA_d, wApp_d, wAppK_d, wIsi_d, wSeq_d, wR1_d, wR2_d, wEnum_d, wLC_d, wDict0_d, wgSet_d, wgNil_d, wgCons_d, wgSeq_t, wgSeq_l, wsNext_d, wsBrk_d, wsCont_d, wsSeq_d, wsIf_d, wsExpr_d, wsRet_d, wsSet_d, wsPar_d, wsPar3_d, wsAsg_d, wsAppend_d, wsExtend_d, wsReverse_d, wsFor_d, wsWhile_d, wFn_d, wFnN_d, wDraw_d, vSub_d, vLt_d, vLe_d, vGt_d, vGe_d, vMax2_d, vMin2_d, vMul_t, vMul_l, vAdd_d, vAdd_t, vAdd_l, vCat_d, vEq_i, vNe_i, vEq_s, vNe_s, vIx_t, vIx_l, tAt_0, tAt_1, tAt_2, vAbs_d, vLen_t, vLen_l, vTuple_l, vTuple_t, vList_l, vList_t, vInt_b, vInt_i, vNotB_d, vIsN_d, vNotN_d, vIx_sh0, vIx_sh1, vEq_sh, vNe_sh, EV.startT, List.map_cons, List.map_nil, List.length_cons, List.length_nil, List.replicate_succ, List.replicate_zero, List.nil_append, List.cons_append, List.append_nil, List.getElem?_cons_zero, List.getElem?_cons_succ, List.set_cons_zero, List.set_cons_succ, Nat.reduceAdd, Nat.reduceSub, Nat.zero_add, wipeT, mIntT, sel, List.filterMap_cons, List.filterMap_nil, Bool.false_eq_true, if_false, if_true, true_and, and_true, and_self, Bool.and_self, Bool.not_true, Bool.not_false, decide_true, decide_false, Option.getD_some, vMod_p])
  unfold W_common_divisor WB_common_divisor
  simp! only []
  rw [w _ _ _ _ _ (by split <;> omega) (by split <;> omega) (by omega), gcd_abs]
  rfl
theorem is_share_eq {x : T} (hx : x.repb = true) {c : Nat} {Q : QT} : W_is_share [x] c Q = Q (.bl (shareB x)) c := by
  unfold W_is_share WB_is_share
  simp! only [is_tuple_of_eq (T.repb.nopen hx)]
  cases q : x.tupB 2 2 with
  | false => simp! only [shareB_two q]
  | true =>
    obtain ⟨a, b, rfl⟩ := tupB_two q
    have ha := repb_tup hx a (by simp)
    have hb := repb_tup hx b (by simp)
    simp! only [is_whole_eq (T.repb.nopen ha), is_whole_eq (T.repb.nopen hb)]
    cases a with
    | int i =>
      cases b with
      | int j =>
        simp only [T.isInt, wBin_d, wB2_d, wB1_d, wVar_d, wK_d, wNil_d, wCons_d, wTup_d, wLst_d, wIf_d, wAnd2_d, wOr2_d, wOrT_d, wAndT_d, wNot1_d, wNeg_d, wChain_d, wB_d, wTru_d, wtNot_d, wtAnd_d, wtOr_d, wtTrue_d, woNone_d, woSome_d, wSl_d, wSlL_d, wRevA_d, wApp_d, wAppK_d, wIsi_d, wSeq_d, wR1_d, wR2_d, wEnum_d, wLC_d, wDict0_d, wgSet_d, wgNil_d, wgCons_d, wgSeq_t, wgSeq_l, wsNext_d, wsBrk_d, wsCont_d, wsSeq_d, wsIf_d, wsExpr_d, wsRet_d, wsSet_d, wsPar_d, wsPar3_d, wsAsg_d, wsAppend_d, wsExtend_d, wsReverse_d, wsFor_d, wsWhile_d, wFn_d, wFnN_d, wDraw_d, vSub_d, vLt_d, vLe_d, vGt_d, vGe_d, vMax2_d, vMin2_d, vMul_t, vMul_l, vAdd_d, vAdd_t, vAdd_l, vCat_d, vEq_i, vNe_i, vEq_s, vNe_s, vIx_t, vIx_l, tAt_0, tAt_1, tAt_2, vAbs_d, vLen_t, vLen_l, vTuple_l, vTuple_t, vList_l, vList_t, vInt_b, vInt_i, vNotB_d, vIsN_d, vNotN_d, vIx_sh0, vIx_sh1, vEq_sh, vNe_sh, EV.startT, List.map_cons, List.map_nil, List.length_cons, List.length_nil, List.replicate_succ, List.replicate_zero, List.nil_append, List.cons_append, List.append_nil, List.getElem?_cons_zero, List.getElem?_cons_succ, List.set_cons_zero, List.set_cons_succ, Nat.reduceAdd, Nat.reduceSub, Nat.zero_add, wipeT, mIntT, sel, List.filterMap_cons, List.filterMap_nil, Bool.false_eq_true, if_false, if_true, true_and, and_true, and_self, Bool.and_self, Bool.not_true, Bool.not_false, decide_true, decide_false, Option.getD_some, common_divisor_eq, shareB]
        by_cases h : 1 ≤ j
        · simp only [decide_eq_true h, Bool.true_and]
          congr 2
          by_cases h2 : Int.gcd i j = 1
          · rw [h2]; rfl
          · have h3 : ((Int.gcd i j : Int) == 1) = false := by rw [beq_eq_false_iff_ne]; omega
            have h4 : (Int.gcd i j == 1) = false := by rw [beq_eq_false_iff_ne]; exact h2
            rw [h3, h4]
        · simp only [decide_eq_false h, Bool.false_and]
      | _ => simp only [T.isInt, wBin_d, wB2_d, wB1_d, wVar_d, wK_d, wNil_d, wCons_d, wTup_d, wLst_d, wIf_d, wAnd2_d, wOr2_d, wOrT_d, wAndT_d, wNot1_d, wNeg_d, wChain_d, wB_d, wTru_d, wtNot_d, wtAnd_d, wtOr_d, wtTrue_d, woNone_d, woSome_d, wSl_d, wSlL_d, wRevA_d, wApp_d, wAppK_d, wIsi_d, wSeq_d, wR1_d, wR2_d, wEnum_d, wLC_d, wDict0_d, wgSet_d, wgNil_d, wgCons_d, wgSeq_t, wgSeq_l, wsNext_d, wsBrk_d, wsCont_d, wsSeq_d, wsIf_d, wsExpr_d, wsRet_d, wsSet_d, wsPar_d, wsPar3_d, wsAsg_d, wsAppend_d, wsExtend_d, wsReverse_d, wsFor_d, wsWhile_d, wFn_d, wFnN_d, wDraw_d, vSub_d, vLt_d, vLe_d, vGt_d, vGe_d, vMax2_d, vMin2_d, vMul_t, vMul_l, vAdd_d, vAdd_t, vAdd_l, vCat_d, vEq_i, vNe_i, vEq_s, vNe_s, vIx_t, vIx_l, tAt_0, tAt_1, tAt_2, vAbs_d, vLen_t, vLen_l, vTuple_l, vTuple_t, vList_l, vList_t, vInt_b, vInt_i, vNotB_d, vIsN_d, vNotN_d, vIx_sh0, vIx_sh1, vEq_sh, vNe_sh, EV.startT, List.map_cons, List.map_nil, List.length_cons, List.length_nil, List.replicate_succ, List.replicate_zero, List.nil_append, List.cons_append, List.append_nil, List.getElem?_cons_zero, List.getElem?_cons_succ, List.set_cons_zero, List.set_cons_succ, Nat.reduceAdd, Nat.reduceSub, Nat.zero_add, wipeT, mIntT, sel, List.filterMap_cons, List.filterMap_nil, Bool.false_eq_true, if_false, if_true, true_and, and_true, and_self, Bool.and_self, Bool.not_true, Bool.not_false, decide_true, decide_false, Option.getD_some, shareB]
    | _ => simp only [T.isInt, wBin_d, wB2_d, wB1_d, wVar_d, wK_d, wNil_d, wCons_d, wTup_d, wLst_d, wIf_d, wAnd2_d, wOr2_d, wOrT_d, wAndT_d, wNot1_d, wNeg_d, wChain_d, wB_d, wTru_d, wtNot_d, wtAnd_d, wtOr_d, wtTrue_d, woNone_d, woSome_d, wSl_d, wSlL_d, wRevA_d, wApp_d, wAppK_d, wIsi_d, wSeq_d, wR1_d, wR2_d, wEnum_d, wLC_d, wDict0_d, wgSet_d, wgNil_d, wgCons_d, wgSeq_t, wgSeq_l, wsNext_d, wsBrk_d, wsCont_d, wsSeq_d, wsIf_d, wsExpr_d, wsRet_d, wsSet_d, wsPar_d, wsPar3_d, wsAsg_d, wsAppend_d, wsExtend_d, wsReverse_d, wsFor_d, wsWhile_d, wFn_d, wFnN_d, wDraw_d, vSub_d, vLt_d, vLe_d, vGt_d, vGe_d, vMax2_d, vMin2_d, vMul_t, vMul_l, vAdd_d, vAdd_t, vAdd_l, vCat_d, vEq_i, vNe_i, vEq_s, vNe_s, vIx_t, vIx_l, tAt_0, tAt_1, tAt_2, vAbs_d, vLen_t, vLen_l, vTuple_l, vTuple_t, vList_l, vList_t, vInt_b, vInt_i, vNotB_d, vIsN_d, vNotN_d, vIx_sh0, vIx_sh1, vEq_sh, vNe_sh, EV.startT, List.map_cons, List.map_nil, List.length_cons, List.length_nil, List.replicate_succ, List.replicate_zero, List.nil_append, List.cons_append, List.append_nil, List.getElem?_cons_zero, List.getElem?_cons_succ, List.set_cons_zero, List.set_cons_succ, Nat.reduceAdd, Nat.reduceSub, Nat.zero_add, wipeT, mIntT, sel, List.filterMap_cons, List.filterMap_nil, Bool.false_eq_true, if_false, if_true, true_and, and_true, and_self, Bool.and_self, Bool.not_true, Bool.not_false, decide_true, decide_false, Option.getD_some, shareB]
def numB (x : T) : Bool := x.belowB 10
def twoB : T → Bool
  | .tup [a, b] => numB a && numB b
  | _ => false
def prsB : T → Bool
  | .tup ps => (T.tup ps).tupB 1 9 && ps.all twoB
  | _ => false
def plineB : T → Bool
  | .tup [w] => w.isTx "weight" || w.isTx "lot"
  | .tup [w, a, b] => !(w.isTx "weight" || w.isTx "lot") && (if (w.isTx "forget" || w.isTx "carries") = true then numB a && numB b else w.isTx "gap" && (numB a && shareB b))
  | .tup [w, a, b, d] => !(w.isTx "weight" || w.isTx "lot") && (!(w.isTx "forget" || w.isTx "carries") && (!w.isTx "gap" && (w.isTx "see" && (numB a && numB b && prsB d))))
  | _ => false
def progB : T → Bool
  | .tup ls => (T.tup ls).tupB 0 12 && ls.all plineB
  | _ => false
theorem are_numbers_eq {xs : List T} (hx : ∀ x ∈ xs, x.repb = true) (hl : xs.length ≤ 100) {c : Nat} {Q : QT} : W_are_numbers [.tup xs] c Q = Q (.bl (xs.all numB)) c := by
  unfold W_are_numbers WB_are_numbers
  simp! only []
  rw [wlc_mapT (fun y => T.bl (numB y)) (fun y hy K K0 => by simp! only [is_below_eq (T.repb.nopen (hx y hy))]; rfl) (fitL (by omega)), vAll_m]
theorem twoB_two {x : T} (h : x.tupB 2 2 = false) : twoB x = false := by
  cases q : twoB x with
  | false => rfl
  | true =>
    unfold twoB at q
    split at q
    · cases h
    · cases q
theorem are_told_pairs_eq {x : T} (hx : x.repb = true) {c : Nat} {Q : QT} : W_are_told_pairs [x] c Q = Q (.bl (prsB x)) c := by
  unfold W_are_told_pairs WB_are_told_pairs
  simp! only [is_tuple_of_eq (T.repb.nopen hx)]
  cases q : x.tupB 1 9 with
  | false =>
    have : prsB x = false := by
      cases x with
      | tup xs => simp only [prsB, q, Bool.false_and]
      | _ => rfl
    simp! only [this]
  | true =>
    obtain ⟨xs, rfl, l1, l2⟩ := tupB_some q
    simp! only [prsB, q, Bool.true_and]
    rw [wlc_mapT (fun y => T.bl (twoB y)) (fun y hy K K0 => ?_) (fitL (by omega)), vAll_m]
    have hy := repb_tup hx y hy
    simp! only [is_tuple_of_eq (T.repb.nopen hy)]
    cases q2 : y.tupB 2 2 with
    | false => simp only [twoB_two q2]
    | true =>
      obtain ⟨a, b, rfl⟩ := tupB_two q2
      simp only [are_numbers_eq (repb_tup hy) (show ([a, b] : List T).length ≤ 100 by simp)]
      simp only [twoB, List.all_cons, List.all_nil, Bool.and_true]
theorem cut1 {w : T} {r : List T} : cutT (w :: r) (some 1) none = r := by rw [show (some (1 : Int)) = some ((1 : Nat) : Int) from rfl, cutT_suf]; rfl
theorem cut12 {w a b : T} : cutT [w, a, b] (some 1) (some 2) = [a] := by
  rw [show (some (1 : Int)) = some ((1 : Nat) : Int) from rfl, show (some (2 : Int)) = some ((2 : Nat) : Int) from rfl, cutT_mid 1 2 (by simp)]; rfl
theorem cut13 {w a b d : T} : cutT [w, a, b, d] (some 1) (some 3) = [a, b] := by
  rw [show (some (1 : Int)) = some ((1 : Nat) : Int) from rfl, show (some (3 : Int)) = some ((3 : Nat) : Int) from rfl, cutT_mid 1 3 (by simp)]; rfl
theorem at3 {a b c d : T} {r : List T} {P : T → Prop} : tAt (a :: b :: c :: d :: r) 3 P = P d := tAt_n (by decide) rfl
theorem is_program_line_eq {x : T} (hx : x.repb = true) {c : Nat} {Q : QT} : W_is_program_line [x] c Q = Q (.bl (plineB x)) c := by
  unfold W_is_program_line WB_is_program_line
  simp! only [is_tuple_of_eq (T.repb.nopen hx)]
  cases x with
  | tup xs =>
    match xs, hx with
    | [], _ => rfl
    | [w], hx =>
      have hw := T.repb.nopen (repb_tup hx w (by simp))
      have d : (T.tup [w]).tupB 1 4 = true := rfl
      have l1 : (((1 : Nat) : Int) == 1) = true := rfl
      have l3 : (((1 : Nat) : Int) == 3) = false := rfl
      have l4 : (((1 : Nat) : Int) == 4) = false := rfl
      simp! only [d, vEqS_d hw, l1, l3, l4, plineB]
      cases w.isTx "weight" <;> cases w.isTx "lot" <;> cases w.isTx "forget" <;> cases w.isTx "carries" <;> cases w.isTx "gap" <;> cases w.isTx "see" <;> simp! only [Bool.or_self, Bool.true_or, Bool.or_true, Bool.or_false, Bool.false_or]
    | [w, a], hx =>
      have hw := T.repb.nopen (repb_tup hx w (by simp))
      have d : (T.tup [w, a]).tupB 1 4 = true := rfl
      have l1 : (((2 : Nat) : Int) == 1) = false := rfl
      have l3 : (((2 : Nat) : Int) == 3) = false := rfl
      have l4 : (((2 : Nat) : Int) == 4) = false := rfl
      simp! only [d, vEqS_d hw, l1, l3, l4, plineB]
      cases w.isTx "weight" <;> cases w.isTx "lot" <;> cases w.isTx "forget" <;> cases w.isTx "carries" <;> cases w.isTx "gap" <;> cases w.isTx "see" <;> simp! only []
    | [w, a, b], hx =>
      have hw := T.repb.nopen (repb_tup hx w (by simp))
      have ha := repb_tup hx a (by simp)
      have hb := repb_tup hx b (by simp)
      have d : (T.tup [w, a, b]).tupB 1 4 = true := rfl
      have l1 : (((3 : Nat) : Int) == 1) = false := rfl
      have l3 : (((3 : Nat) : Int) == 3) = true := rfl
      have l4 : (((3 : Nat) : Int) == 4) = false := rfl
      have n2 : ∀ {c : Nat} {Q : QT}, W_are_numbers [.tup [a, b]] c Q = Q (.bl (numB a && numB b)) c := fun {c Q} => by
        rw [are_numbers_eq (fun y hy => by simp only [List.mem_cons, List.not_mem_nil, or_false] at hy; rcases hy with rfl | rfl <;> assumption) (by simp)]
        simp only [List.all_cons, List.all_nil, Bool.and_true]
      have n1 : ∀ {c : Nat} {Q : QT}, W_are_numbers [.tup [a]] c Q = Q (.bl (numB a)) c := fun {c Q} => by
        rw [are_numbers_eq (fun y hy => by simp only [List.mem_cons, List.not_mem_nil, or_false] at hy; rcases hy with rfl; assumption) (by simp)]
        simp only [List.all_cons, List.all_nil, Bool.and_true]
      simp! only [d, vEqS_d hw, l1, l3, l4, plineB, cut1, cut12, n2, n1, is_share_eq hb]
      cases w.isTx "weight" <;> cases w.isTx "lot" <;> cases w.isTx "forget" <;> cases w.isTx "carries" <;> cases w.isTx "gap" <;> cases w.isTx "see" <;> cases numB a <;> simp! only [Bool.or_self, Bool.true_or, Bool.or_true, Bool.or_false, Bool.false_or, Bool.true_and, Bool.false_and]
    | [w, a, b, e], hx =>
      have hw := T.repb.nopen (repb_tup hx w (by simp))
      have ha := repb_tup hx a (by simp)
      have hb := repb_tup hx b (by simp)
      have he := repb_tup hx e (by simp)
      have d : (T.tup [w, a, b, e]).tupB 1 4 = true := rfl
      have l1 : (((4 : Nat) : Int) == 1) = false := rfl
      have l3 : (((4 : Nat) : Int) == 3) = false := rfl
      have l4 : (((4 : Nat) : Int) == 4) = true := rfl
      have n2 : ∀ {c : Nat} {Q : QT}, W_are_numbers [.tup [a, b]] c Q = Q (.bl (numB a && numB b)) c := fun {c Q} => by
        rw [are_numbers_eq (fun y hy => by simp only [List.mem_cons, List.not_mem_nil, or_false] at hy; rcases hy with rfl | rfl <;> assumption) (by simp)]
        simp only [List.all_cons, List.all_nil, Bool.and_true]
      simp! only [d, vEqS_d hw, l1, l3, l4, plineB, cut13, n2, at3, are_told_pairs_eq he]
      cases w.isTx "weight" <;> cases w.isTx "lot" <;> cases w.isTx "forget" <;> cases w.isTx "carries" <;> cases w.isTx "gap" <;> cases w.isTx "see" <;> cases (numB a && numB b) <;> simp! only [Bool.or_self, Bool.true_or, Bool.or_true, Bool.or_false, Bool.false_or, Bool.true_and, Bool.false_and]
    | w :: a :: b :: e :: f :: r, hx =>
      have d : (T.tup (w :: a :: b :: e :: f :: r)).tupB 1 4 = false := by
        simp only [T.tupB, List.length_cons]
        rw [decide_eq_false (show ¬ (((r.length + 1 + 1 + 1 + 1 + 1 : Nat) : Int) ≤ 4) by omega), Bool.and_false]
      simp! only [d, plineB]
  | _ => rfl
theorem is_program_eq {x : T} (hx : x.repb = true) {c : Nat} {Q : QT} : W_is_program [x] c Q = Q (.bl (progB x)) c := by
  unfold W_is_program WB_is_program
  simp! only [is_tuple_of_eq (T.repb.nopen hx)]
  cases q : x.tupB 0 12 with
  | false =>
    have : progB x = false := by
      cases x with
      | tup xs => simp only [progB, q, Bool.false_and]
      | _ => rfl
    simp! only [this]
  | true =>
    obtain ⟨xs, rfl, l1, l2⟩ := tupB_some q
    simp! only [progB, q, Bool.true_and]
    rw [wlc_mapT (fun y => T.bl (plineB y)) (fun y hy K K0 => by simp! only [is_program_line_eq (repb_tup hx y hy)]) (fitL (by omega)), vAll_m]
theorem _law_is_number_eq {x : T} (hx : x.nopen = true) {c : Nat} {Q : QT} : W__law_is_number [x] c Q = Q (.bl (numB x)) c := by
  unfold W__law_is_number WB__law_is_number
  obtain ⟨y, e⟩ := T.ty_of hx
  simp! only [e]
  cases x with
  | int i =>
    cases e
    simp only [isSub, numB, T.belowB, decide_true, Bool.true_or, wBin_d, wB2_d, wB1_d, wVar_d, wK_d, wNil_d, wCons_d, wTup_d, wLst_d, wIf_d, wAnd2_d, wOr2_d, wOrT_d, wAndT_d, wNot1_d, wNeg_d, wChain_d, wB_d, wTru_d, wtNot_d, wtAnd_d, wtOr_d, wtTrue_d, woNone_d, woSome_d, wSl_d, wSlL_d, wRevA_d, wApp_d, wAppK_d, wIsi_d, wSeq_d, wR1_d, wR2_d, wEnum_d, wLC_d, wDict0_d, wgSet_d, wgNil_d, wgCons_d, wgSeq_t, wgSeq_l, wsNext_d, wsBrk_d, wsCont_d, wsSeq_d, wsIf_d, wsExpr_d, wsRet_d, wsSet_d, wsPar_d, wsPar3_d, wsAsg_d, wsAppend_d, wsExtend_d, wsReverse_d, wsFor_d, wsWhile_d, wFn_d, wFnN_d, wDraw_d, vSub_d, vLt_d, vLe_d, vGt_d, vGe_d, vMax2_d, vMin2_d, vMul_t, vMul_l, vAdd_d, vAdd_t, vAdd_l, vCat_d, vEq_i, vNe_i, vEq_s, vNe_s, vIx_t, vIx_l, tAt_0, tAt_1, tAt_2, vAbs_d, vLen_t, vLen_l, vTuple_l, vTuple_t, vList_l, vList_t, vInt_b, vInt_i, vNotB_d, vIsN_d, vNotN_d, vIx_sh0, vIx_sh1, vEq_sh, vNe_sh, EV.startT, List.map_cons, List.map_nil, List.length_cons, List.length_nil, List.replicate_succ, List.replicate_zero, List.nil_append, List.cons_append, List.append_nil, List.getElem?_cons_zero, List.getElem?_cons_succ, List.set_cons_zero, List.set_cons_succ, Nat.reduceAdd, Nat.reduceSub, Nat.zero_add, wipeT, mIntT, sel, List.filterMap_cons, List.filterMap_nil, Bool.false_eq_true, if_false, if_true, true_and, and_true, and_self, Bool.and_self, Bool.not_true, Bool.not_false, decide_true, decide_false, Option.getD_some, reduceCtorEq, Bool.or_self, Bool.and_false]
    by_cases q : 0 ≤ i
    · simp only [decide_eq_true q, Bool.true_and]
      by_cases q2 : i ≤ 9
      · rw [decide_eq_true q2, decide_eq_true (show i < 10 by omega)]
      · rw [decide_eq_false q2, decide_eq_false (show ¬ i < 10 by omega)]
    · simp only [decide_eq_false q, Bool.false_and]
  | bl b => cases e; rfl
  | _ => first | (cases e; rfl) | cases e
theorem _law_are_pairs_eq {x : T} (hx : x.repb = true) {c : Nat} {Q : QT} : W__law_are_pairs [x] c Q = Q (.bl (prsB x)) c := by
  unfold W__law_are_pairs WB__law_are_pairs
  obtain ⟨ty, et⟩ := T.ty_of (T.repb.nopen hx)
  simp! only [et]
  cases x with
  | tup xs =>
    cases et
    simp only [isSub, decide_true, Bool.true_or, wBin_d, wB2_d, wB1_d, wVar_d, wK_d, wNil_d, wCons_d, wTup_d, wLst_d, wIf_d, wAnd2_d, wOr2_d, wOrT_d, wAndT_d, wNot1_d, wNeg_d, wChain_d, wB_d, wTru_d, wtNot_d, wtAnd_d, wtOr_d, wtTrue_d, woNone_d, woSome_d, wSl_d, wSlL_d, wRevA_d, wApp_d, wAppK_d, wIsi_d, wSeq_d, wR1_d, wR2_d, wEnum_d, wLC_d, wDict0_d, wgSet_d, wgNil_d, wgCons_d, wgSeq_t, wgSeq_l, wsNext_d, wsBrk_d, wsCont_d, wsSeq_d, wsIf_d, wsExpr_d, wsRet_d, wsSet_d, wsPar_d, wsPar3_d, wsAsg_d, wsAppend_d, wsExtend_d, wsReverse_d, wsFor_d, wsWhile_d, wFn_d, wFnN_d, wDraw_d, vSub_d, vLt_d, vLe_d, vGt_d, vGe_d, vMax2_d, vMin2_d, vMul_t, vMul_l, vAdd_d, vAdd_t, vAdd_l, vCat_d, vEq_i, vNe_i, vEq_s, vNe_s, vIx_t, vIx_l, tAt_0, tAt_1, tAt_2, vAbs_d, vLen_t, vLen_l, vTuple_l, vTuple_t, vList_l, vList_t, vInt_b, vInt_i, vNotB_d, vIsN_d, vNotN_d, vIx_sh0, vIx_sh1, vEq_sh, vNe_sh, EV.startT, List.map_cons, List.map_nil, List.length_cons, List.length_nil, List.replicate_succ, List.replicate_zero, List.nil_append, List.cons_append, List.append_nil, List.getElem?_cons_zero, List.getElem?_cons_succ, List.set_cons_zero, List.set_cons_succ, Nat.reduceAdd, Nat.reduceSub, Nat.zero_add, wipeT, mIntT, sel, List.filterMap_cons, List.filterMap_nil, Bool.false_eq_true, if_false, if_true, true_and, and_true, and_self, Bool.and_self, Bool.not_true, Bool.not_false, decide_true, decide_false, Option.getD_some]
    cases q : (T.tup xs).tupB 1 9 with
    | false =>
      have hr : prsB (.tup xs) = false := by simp only [prsB, q, Bool.false_and]
      rw [hr]
      simp only [T.tupB] at q
      by_cases h1 : (1 : Int) ≤ (xs.length : Int)
      · have h2 : ¬ (xs.length : Int) ≤ 9 := by
          intro h
          rw [decide_eq_true h1, decide_eq_true h] at q
          cases q
        simp only [decide_eq_true h1, decide_eq_false h2, wBin_d, wB2_d, wB1_d, wVar_d, wK_d, wNil_d, wCons_d, wTup_d, wLst_d, wIf_d, wAnd2_d, wOr2_d, wOrT_d, wAndT_d, wNot1_d, wNeg_d, wChain_d, wB_d, wTru_d, wtNot_d, wtAnd_d, wtOr_d, wtTrue_d, woNone_d, woSome_d, wSl_d, wSlL_d, wRevA_d, wApp_d, wAppK_d, wIsi_d, wSeq_d, wR1_d, wR2_d, wEnum_d, wLC_d, wDict0_d, wgSet_d, wgNil_d, wgCons_d, wgSeq_t, wgSeq_l, wsNext_d, wsBrk_d, wsCont_d, wsSeq_d, wsIf_d, wsExpr_d, wsRet_d, wsSet_d, wsPar_d, wsPar3_d, wsAsg_d, wsAppend_d, wsExtend_d, wsReverse_d, wsFor_d, wsWhile_d, wFn_d, wFnN_d, wDraw_d, vSub_d, vLt_d, vLe_d, vGt_d, vGe_d, vMax2_d, vMin2_d, vMul_t, vMul_l, vAdd_d, vAdd_t, vAdd_l, vCat_d, vEq_i, vNe_i, vEq_s, vNe_s, vIx_t, vIx_l, tAt_0, tAt_1, tAt_2, vAbs_d, vLen_t, vLen_l, vTuple_l, vTuple_t, vList_l, vList_t, vInt_b, vInt_i, vNotB_d, vIsN_d, vNotN_d, vIx_sh0, vIx_sh1, vEq_sh, vNe_sh, EV.startT, List.map_cons, List.map_nil, List.length_cons, List.length_nil, List.replicate_succ, List.replicate_zero, List.nil_append, List.cons_append, List.append_nil, List.getElem?_cons_zero, List.getElem?_cons_succ, List.set_cons_zero, List.set_cons_succ, Nat.reduceAdd, Nat.reduceSub, Nat.zero_add, wipeT, mIntT, sel, List.filterMap_cons, List.filterMap_nil, Bool.false_eq_true, if_false, if_true, true_and, and_true, and_self, Bool.and_self, Bool.not_true, Bool.not_false, decide_true, decide_false, Option.getD_some]
      · simp only [decide_eq_false h1, wBin_d, wB2_d, wB1_d, wVar_d, wK_d, wNil_d, wCons_d, wTup_d, wLst_d, wIf_d, wAnd2_d, wOr2_d, wOrT_d, wAndT_d, wNot1_d, wNeg_d, wChain_d, wB_d, wTru_d, wtNot_d, wtAnd_d, wtOr_d, wtTrue_d, woNone_d, woSome_d, wSl_d, wSlL_d, wRevA_d, wApp_d, wAppK_d, wIsi_d, wSeq_d, wR1_d, wR2_d, wEnum_d, wLC_d, wDict0_d, wgSet_d, wgNil_d, wgCons_d, wgSeq_t, wgSeq_l, wsNext_d, wsBrk_d, wsCont_d, wsSeq_d, wsIf_d, wsExpr_d, wsRet_d, wsSet_d, wsPar_d, wsPar3_d, wsAsg_d, wsAppend_d, wsExtend_d, wsReverse_d, wsFor_d, wsWhile_d, wFn_d, wFnN_d, wDraw_d, vSub_d, vLt_d, vLe_d, vGt_d, vGe_d, vMax2_d, vMin2_d, vMul_t, vMul_l, vAdd_d, vAdd_t, vAdd_l, vCat_d, vEq_i, vNe_i, vEq_s, vNe_s, vIx_t, vIx_l, tAt_0, tAt_1, tAt_2, vAbs_d, vLen_t, vLen_l, vTuple_l, vTuple_t, vList_l, vList_t, vInt_b, vInt_i, vNotB_d, vIsN_d, vNotN_d, vIx_sh0, vIx_sh1, vEq_sh, vNe_sh, EV.startT, List.map_cons, List.map_nil, List.length_cons, List.length_nil, List.replicate_succ, List.replicate_zero, List.nil_append, List.cons_append, List.append_nil, List.getElem?_cons_zero, List.getElem?_cons_succ, List.set_cons_zero, List.set_cons_succ, Nat.reduceAdd, Nat.reduceSub, Nat.zero_add, wipeT, mIntT, sel, List.filterMap_cons, List.filterMap_nil, Bool.false_eq_true, if_false, if_true, true_and, and_true, and_self, Bool.and_self, Bool.not_true, Bool.not_false, decide_true, decide_false, Option.getD_some]
    | true =>
      have hl : 1 ≤ (xs.length : Int) ∧ (xs.length : Int) ≤ 9 := by simpa only [T.tupB, Bool.and_eq_true, decide_eq_true_eq] using q
      simp only [decide_eq_true hl.1, decide_eq_true hl.2, wBin_d, wB2_d, wB1_d, wVar_d, wK_d, wNil_d, wCons_d, wTup_d, wLst_d, wIf_d, wAnd2_d, wOr2_d, wOrT_d, wAndT_d, wNot1_d, wNeg_d, wChain_d, wB_d, wTru_d, wtNot_d, wtAnd_d, wtOr_d, wtTrue_d, woNone_d, woSome_d, wSl_d, wSlL_d, wRevA_d, wApp_d, wAppK_d, wIsi_d, wSeq_d, wR1_d, wR2_d, wEnum_d, wLC_d, wDict0_d, wgSet_d, wgNil_d, wgCons_d, wgSeq_t, wgSeq_l, wsNext_d, wsBrk_d, wsCont_d, wsSeq_d, wsIf_d, wsExpr_d, wsRet_d, wsSet_d, wsPar_d, wsPar3_d, wsAsg_d, wsAppend_d, wsExtend_d, wsReverse_d, wsFor_d, wsWhile_d, wFn_d, wFnN_d, wDraw_d, vSub_d, vLt_d, vLe_d, vGt_d, vGe_d, vMax2_d, vMin2_d, vMul_t, vMul_l, vAdd_d, vAdd_t, vAdd_l, vCat_d, vEq_i, vNe_i, vEq_s, vNe_s, vIx_t, vIx_l, tAt_0, tAt_1, tAt_2, vAbs_d, vLen_t, vLen_l, vTuple_l, vTuple_t, vList_l, vList_t, vInt_b, vInt_i, vNotB_d, vIsN_d, vNotN_d, vIx_sh0, vIx_sh1, vEq_sh, vNe_sh, EV.startT, List.map_cons, List.map_nil, List.length_cons, List.length_nil, List.replicate_succ, List.replicate_zero, List.nil_append, List.cons_append, List.append_nil, List.getElem?_cons_zero, List.getElem?_cons_succ, List.set_cons_zero, List.set_cons_succ, Nat.reduceAdd, Nat.reduceSub, Nat.zero_add, wipeT, mIntT, sel, List.filterMap_cons, List.filterMap_nil, Bool.false_eq_true, if_false, if_true, true_and, and_true, and_self, Bool.and_self, Bool.not_true, Bool.not_false, decide_true, decide_false, Option.getD_some]
      obtain ⟨s', e⟩ := wfor_all (γ := wgSet 1) (β := (wsSeq (wsIf (wtOr (wtNot (wB (wIsi .tup (wVar 1)))) (wB (wBin vNe (wB1 vLen (wVar 1)) (wK (.int 2))))) (wsRet (wK (.bl false))) wsNext) (wsIf (wtOr (wtNot (wB (wApp W__law_is_number (wCons (wBin vIx (wVar 1) (wK (.int 0))) wNil)))) (wtNot (wB (wApp W__law_is_number (wCons (wBin vIx (wVar 1) (wK (.int 1))) wNil))))) (wsRet (wK (.bl false))) wsNext))) (c := c) (mk := fun s : Option T => [some (.tup xs), s]) twoB (.bl false) xs (fun y hy s => by
        have hy := repb_tup hx y hy
        refine ⟨some y, fun K => ?_⟩
        obtain ⟨tz, ez⟩ := T.ty_of (T.repb.nopen hy)
        simp! only [ez]
        cases y with
        | tup zs =>
          cases ez
          simp only [isSub, decide_true, Bool.true_or, wBin_d, wB2_d, wB1_d, wVar_d, wK_d, wNil_d, wCons_d, wTup_d, wLst_d, wIf_d, wAnd2_d, wOr2_d, wOrT_d, wAndT_d, wNot1_d, wNeg_d, wChain_d, wB_d, wTru_d, wtNot_d, wtAnd_d, wtOr_d, wtTrue_d, woNone_d, woSome_d, wSl_d, wSlL_d, wRevA_d, wApp_d, wAppK_d, wIsi_d, wSeq_d, wR1_d, wR2_d, wEnum_d, wLC_d, wDict0_d, wgSet_d, wgNil_d, wgCons_d, wgSeq_t, wgSeq_l, wsNext_d, wsBrk_d, wsCont_d, wsSeq_d, wsIf_d, wsExpr_d, wsRet_d, wsSet_d, wsPar_d, wsPar3_d, wsAsg_d, wsAppend_d, wsExtend_d, wsReverse_d, wsFor_d, wsWhile_d, wFn_d, wFnN_d, wDraw_d, vSub_d, vLt_d, vLe_d, vGt_d, vGe_d, vMax2_d, vMin2_d, vMul_t, vMul_l, vAdd_d, vAdd_t, vAdd_l, vCat_d, vEq_i, vNe_i, vEq_s, vNe_s, vIx_t, vIx_l, tAt_0, tAt_1, tAt_2, vAbs_d, vLen_t, vLen_l, vTuple_l, vTuple_t, vList_l, vList_t, vInt_b, vInt_i, vNotB_d, vIsN_d, vNotN_d, vIx_sh0, vIx_sh1, vEq_sh, vNe_sh, EV.startT, List.map_cons, List.map_nil, List.length_cons, List.length_nil, List.replicate_succ, List.replicate_zero, List.nil_append, List.cons_append, List.append_nil, List.getElem?_cons_zero, List.getElem?_cons_succ, List.set_cons_zero, List.set_cons_succ, Nat.reduceAdd, Nat.reduceSub, Nat.zero_add, wipeT, mIntT, sel, List.filterMap_cons, List.filterMap_nil, Bool.false_eq_true, if_false, if_true, true_and, and_true, and_self, Bool.and_self, Bool.not_true, Bool.not_false, decide_true, decide_false, Option.getD_some]
          match zs, hy with
          | [], _ => rfl
          | [a], _ =>
            have d2 : (((1 : Nat) : Int) == 2) = false := rfl
            simp! only [d2, twoB]
          | [a, b], hz =>
            have ha := T.repb.nopen (repb_tup hz a (by simp))
            have hb := T.repb.nopen (repb_tup hz b (by simp))
            have d2 : (((2 : Nat) : Int) == 2) = true := rfl
            simp! only [d2, _law_is_number_eq ha, _law_is_number_eq hb, twoB]
            rcases Bool.eq_false_or_eq_true (numB a) with q1 | q1 <;> rcases Bool.eq_false_or_eq_true (numB b) with q2 | q2 <;> simp only [q1, q2, wBin_d, wB2_d, wB1_d, wVar_d, wK_d, wNil_d, wCons_d, wTup_d, wLst_d, wIf_d, wAnd2_d, wOr2_d, wOrT_d, wAndT_d, wNot1_d, wNeg_d, wChain_d, wB_d, wTru_d, wtNot_d, wtAnd_d, wtOr_d, wtTrue_d, woNone_d, woSome_d, wSl_d, wSlL_d, wRevA_d, wApp_d, wAppK_d, wIsi_d, wSeq_d, wR1_d, wR2_d, wEnum_d, wLC_d, wDict0_d, wgSet_d, wgNil_d, wgCons_d, wgSeq_t, wgSeq_l, wsNext_d, wsBrk_d, wsCont_d, wsSeq_d, wsIf_d, wsExpr_d, wsRet_d, wsSet_d, wsPar_d, wsPar3_d, wsAsg_d, wsAppend_d, wsExtend_d, wsReverse_d, wsFor_d, wsWhile_d, wFn_d, wFnN_d, wDraw_d, vSub_d, vLt_d, vLe_d, vGt_d, vGe_d, vMax2_d, vMin2_d, vMul_t, vMul_l, vAdd_d, vAdd_t, vAdd_l, vCat_d, vEq_i, vNe_i, vEq_s, vNe_s, vIx_t, vIx_l, tAt_0, tAt_1, tAt_2, vAbs_d, vLen_t, vLen_l, vTuple_l, vTuple_t, vList_l, vList_t, vInt_b, vInt_i, vNotB_d, vIsN_d, vNotN_d, vIx_sh0, vIx_sh1, vEq_sh, vNe_sh, EV.startT, List.map_cons, List.map_nil, List.length_cons, List.length_nil, List.replicate_succ, List.replicate_zero, List.nil_append, List.cons_append, List.append_nil, List.getElem?_cons_zero, List.getElem?_cons_succ, List.set_cons_zero, List.set_cons_succ, Nat.reduceAdd, Nat.reduceSub, Nat.zero_add, wipeT, mIntT, sel, List.filterMap_cons, List.filterMap_nil, Bool.false_eq_true, if_false, if_true, true_and, and_true, and_self, Bool.and_self, Bool.not_true, Bool.not_false, decide_true, decide_false, Option.getD_some, Bool.true_and, Bool.false_and]
          | a :: b :: d :: zs, _ =>
            have d2 : (((zs.length + 1 + 1 + 1 : Nat) : Int) == 2) = false := by rw [beq_eq_false_iff_ne]; omega
            simp! only [d2, twoB]
        | pen => cases ez
        | _ => cases ez; rfl) none
      rw [e]
      simp only [prsB, q, Bool.true_and]
      cases xs.all twoB <;> simp! only []
  | pen => cases et
  | _ => cases et; rfl
theorem _law_common_eq {a b : Int} {c : Nat} {Q : QT} : W__law_common [.int a, .int b] c Q = Q (.int (Int.gcd a b)) c := by
  have w := euclidT (θ := (wB (wBin vGt (wVar 1) (wK (.int 0))))) (β := wsPar 0 1 (wVar 1) (wBin vMod (wVar 0) (wVar 1))) (fun n m => [some (.int n), some (.int m)])
    (fun n m c K hn hm => by simp! only []; congr 1; by_cases q : m = 0 <;> simp [q] <;> omega)
    (fun n m c K hn hm => by simp (disch := omega) only [wBin_d, wB2_d, wB1_d, wVar_d, wK_d, wNil_d, wCons_d, wTup_d, wLst_d, wIf_d, wAnd2_d, wOr2_d, wOrT_d, wAndT_d, wNot1_d, wNeg_d, wChain_d, wB_d, wTru_d, wtNot_d, wtAnd_d, wtOr_d, wtTrue_d, woNone_d, woSome_d, wSl_d, wSlL_d, wRevA_d, wApp_d, wAppK_d, wIsi_d, wSeq_d, wR1_d, wR2_d, wEnum_d, wLC_d, wDict0_d, wgSet_d, wgNil_d, wgCons_d, wgSeq_t, wgSeq_l, wsNext_d, wsBrk_d, wsCont_d, wsSeq_d, wsIf_d, wsExpr_d, wsRet_d, wsSet_d, wsPar_d, wsPar3_d, wsAsg_d, wsAppend_d, wsExtend_d, wsReverse_d, wsFor_d, wsWhile_d, wFn_d, wFnN_d, wDraw_d, vSub_d, vLt_d, vLe_d, vGt_d, vGe_d, vMax2_d, vMin2_d, vMul_t, vMul_l, vAdd_d, vAdd_t, vAdd_l, vCat_d, vEq_i, vNe_i, vEq_s, vNe_s, vIx_t, vIx_l, tAt_0, tAt_1, tAt_2, vAbs_d, vLen_t, vLen_l, vTuple_l, vTuple_t, vList_l, vList_t, vInt_b, vInt_i, vNotB_d, vIsN_d, vNotN_d, vIx_sh0, vIx_sh1, vEq_sh, vNe_sh, EV.startT, List.map_cons, List.map_nil, List.length_cons, List.length_nil, List.replicate_succ, List.replicate_zero, List.nil_append, List.cons_append, List.append_nil, List.getElem?_cons_zero, List.getElem?_cons_succ, List.set_cons_zero, List.set_cons_succ, Nat.reduceAdd, Nat.reduceSub, Nat.zero_add, wipeT, mIntT, sel, List.filterMap_cons, List.filterMap_nil, Bool.false_eq_true, if_false, if_true, true_and, and_true, and_self, Bool.and_self, Bool.not_true, Bool.not_false, decide_true, decide_false, Option.getD_some, vMod_p])
  unfold W__law_common WB__law_common
  simp! only []
  rw [w _ _ _ _ _ (by split <;> omega) (by split <;> omega) (by omega), gcd_abs]
  simp! only []
theorem _law_is_share_eq {x : T} (hx : x.repb = true) {c : Nat} {Q : QT} : W__law_is_share [x] c Q = Q (.bl (shareB x)) c := by
  have z0 : 0 ≤ sizeLine := Nat.zero_le _
  unfold W__law_is_share WB__law_is_share
  obtain ⟨ty, et⟩ := T.ty_of (T.repb.nopen hx)
  simp! only [et]
  cases x with
  | tup xs =>
    cases et
    simp only [isSub, decide_true, Bool.true_or, wBin_d, wB2_d, wB1_d, wVar_d, wK_d, wNil_d, wCons_d, wTup_d, wLst_d, wIf_d, wAnd2_d, wOr2_d, wOrT_d, wAndT_d, wNot1_d, wNeg_d, wChain_d, wB_d, wTru_d, wtNot_d, wtAnd_d, wtOr_d, wtTrue_d, woNone_d, woSome_d, wSl_d, wSlL_d, wRevA_d, wApp_d, wAppK_d, wIsi_d, wSeq_d, wR1_d, wR2_d, wEnum_d, wLC_d, wDict0_d, wgSet_d, wgNil_d, wgCons_d, wgSeq_t, wgSeq_l, wsNext_d, wsBrk_d, wsCont_d, wsSeq_d, wsIf_d, wsExpr_d, wsRet_d, wsSet_d, wsPar_d, wsPar3_d, wsAsg_d, wsAppend_d, wsExtend_d, wsReverse_d, wsFor_d, wsWhile_d, wFn_d, wFnN_d, wDraw_d, vSub_d, vLt_d, vLe_d, vGt_d, vGe_d, vMax2_d, vMin2_d, vMul_t, vMul_l, vAdd_d, vAdd_t, vAdd_l, vCat_d, vEq_i, vNe_i, vEq_s, vNe_s, vIx_t, vIx_l, tAt_0, tAt_1, tAt_2, vAbs_d, vLen_t, vLen_l, vTuple_l, vTuple_t, vList_l, vList_t, vInt_b, vInt_i, vNotB_d, vIsN_d, vNotN_d, vIx_sh0, vIx_sh1, vEq_sh, vNe_sh, EV.startT, List.map_cons, List.map_nil, List.length_cons, List.length_nil, List.replicate_succ, List.replicate_zero, List.nil_append, List.cons_append, List.append_nil, List.getElem?_cons_zero, List.getElem?_cons_succ, List.set_cons_zero, List.set_cons_succ, Nat.reduceAdd, Nat.reduceSub, Nat.zero_add, wipeT, mIntT, sel, List.filterMap_cons, List.filterMap_nil, Bool.false_eq_true, if_false, if_true, true_and, and_true, and_self, Bool.and_self, Bool.not_true, Bool.not_false, decide_true, decide_false, Option.getD_some]
    cases q : (T.tup xs).tupB 2 2 with
    | false =>
      have hl : ((xs.length : Int) == 2) = false := by
        rw [beq_eq_false_iff_ne]
        intro h
        simp only [T.tupB, h, Int.le_refl, decide_true, Bool.and_self] at q
        cases q
      simp only [hl, wBin_d, wB2_d, wB1_d, wVar_d, wK_d, wNil_d, wCons_d, wTup_d, wLst_d, wIf_d, wAnd2_d, wOr2_d, wOrT_d, wAndT_d, wNot1_d, wNeg_d, wChain_d, wB_d, wTru_d, wtNot_d, wtAnd_d, wtOr_d, wtTrue_d, woNone_d, woSome_d, wSl_d, wSlL_d, wRevA_d, wApp_d, wAppK_d, wIsi_d, wSeq_d, wR1_d, wR2_d, wEnum_d, wLC_d, wDict0_d, wgSet_d, wgNil_d, wgCons_d, wgSeq_t, wgSeq_l, wsNext_d, wsBrk_d, wsCont_d, wsSeq_d, wsIf_d, wsExpr_d, wsRet_d, wsSet_d, wsPar_d, wsPar3_d, wsAsg_d, wsAppend_d, wsExtend_d, wsReverse_d, wsFor_d, wsWhile_d, wFn_d, wFnN_d, wDraw_d, vSub_d, vLt_d, vLe_d, vGt_d, vGe_d, vMax2_d, vMin2_d, vMul_t, vMul_l, vAdd_d, vAdd_t, vAdd_l, vCat_d, vEq_i, vNe_i, vEq_s, vNe_s, vIx_t, vIx_l, tAt_0, tAt_1, tAt_2, vAbs_d, vLen_t, vLen_l, vTuple_l, vTuple_t, vList_l, vList_t, vInt_b, vInt_i, vNotB_d, vIsN_d, vNotN_d, vIx_sh0, vIx_sh1, vEq_sh, vNe_sh, EV.startT, List.map_cons, List.map_nil, List.length_cons, List.length_nil, List.replicate_succ, List.replicate_zero, List.nil_append, List.cons_append, List.append_nil, List.getElem?_cons_zero, List.getElem?_cons_succ, List.set_cons_zero, List.set_cons_succ, Nat.reduceAdd, Nat.reduceSub, Nat.zero_add, wipeT, mIntT, sel, List.filterMap_cons, List.filterMap_nil, Bool.false_eq_true, if_false, if_true, true_and, and_true, and_self, Bool.and_self, Bool.not_true, Bool.not_false, decide_true, decide_false, Option.getD_some, shareB_two q]
    | true =>
      obtain ⟨a, b, e⟩ := tupB_two q
      cases e
      have ha := repb_tup hx a (by simp)
      have hb := repb_tup hx b (by simp)
      have d2 : (((2 : Nat) : Int) == 2) = true := rfl
      have e1 : ∀ {Q : QT}, wlc (wgSet 1) (wtOr (wtNot (wB (wIsi .int (wVar 1)))) (wB (wIsi .bl (wVar 1)))) (wVar 1) [some (.tup [a, b]), none] [a, b] [] c Q = Q (.lst ([a, b].filter fun x => !x.isInt)) c := fun {Q} => by
        have := wlc_pure (g := wgSet 1) (t := (wtOr (wtNot (wB (wIsi .int (wVar 1)))) (wB (wIsi .bl (wVar 1))))) (e := wVar 1) (τ0 := [some (.tup [a, b]), none]) (Q := Q) (c := c) (fun x => !x.isInt) id [a, b] [] (fun y hy K K0 => by
          have hy := repb_tup hx y hy
          obtain ⟨tz, ez⟩ := T.ty_of (T.repb.nopen hy)
          simp! only [ez]
          cases y with
          | pen => cases ez
          | _ => cases ez; rfl) (fitL (by simp))
        simpa using this
      simp! only [d2, e1, z0, vEqL_n, filter_empty, List.all_cons, List.all_nil, Bool.and_true]
      cases a with
      | int i =>
        cases b with
        | int j =>
          simp only [T.isInt, Bool.and_self, wBin_d, wB2_d, wB1_d, wVar_d, wK_d, wNil_d, wCons_d, wTup_d, wLst_d, wIf_d, wAnd2_d, wOr2_d, wOrT_d, wAndT_d, wNot1_d, wNeg_d, wChain_d, wB_d, wTru_d, wtNot_d, wtAnd_d, wtOr_d, wtTrue_d, woNone_d, woSome_d, wSl_d, wSlL_d, wRevA_d, wApp_d, wAppK_d, wIsi_d, wSeq_d, wR1_d, wR2_d, wEnum_d, wLC_d, wDict0_d, wgSet_d, wgNil_d, wgCons_d, wgSeq_t, wgSeq_l, wsNext_d, wsBrk_d, wsCont_d, wsSeq_d, wsIf_d, wsExpr_d, wsRet_d, wsSet_d, wsPar_d, wsPar3_d, wsAsg_d, wsAppend_d, wsExtend_d, wsReverse_d, wsFor_d, wsWhile_d, wFn_d, wFnN_d, wDraw_d, vSub_d, vLt_d, vLe_d, vGt_d, vGe_d, vMax2_d, vMin2_d, vMul_t, vMul_l, vAdd_d, vAdd_t, vAdd_l, vCat_d, vEq_i, vNe_i, vEq_s, vNe_s, vIx_t, vIx_l, tAt_0, tAt_1, tAt_2, vAbs_d, vLen_t, vLen_l, vTuple_l, vTuple_t, vList_l, vList_t, vInt_b, vInt_i, vNotB_d, vIsN_d, vNotN_d, vIx_sh0, vIx_sh1, vEq_sh, vNe_sh, EV.startT, List.map_cons, List.map_nil, List.length_cons, List.length_nil, List.replicate_succ, List.replicate_zero, List.nil_append, List.cons_append, List.append_nil, List.getElem?_cons_zero, List.getElem?_cons_succ, List.set_cons_zero, List.set_cons_succ, Nat.reduceAdd, Nat.reduceSub, Nat.zero_add, wipeT, mIntT, sel, List.filterMap_cons, List.filterMap_nil, Bool.false_eq_true, if_false, if_true, true_and, and_true, and_self, Bool.and_self, Bool.not_true, Bool.not_false, decide_true, decide_false, Option.getD_some, shareB, _law_common_eq]
          by_cases h : j < 1
          · simp only [decide_eq_true h, decide_eq_false (show ¬ 1 ≤ j by omega), Bool.false_and, wBin_d, wB2_d, wB1_d, wVar_d, wK_d, wNil_d, wCons_d, wTup_d, wLst_d, wIf_d, wAnd2_d, wOr2_d, wOrT_d, wAndT_d, wNot1_d, wNeg_d, wChain_d, wB_d, wTru_d, wtNot_d, wtAnd_d, wtOr_d, wtTrue_d, woNone_d, woSome_d, wSl_d, wSlL_d, wRevA_d, wApp_d, wAppK_d, wIsi_d, wSeq_d, wR1_d, wR2_d, wEnum_d, wLC_d, wDict0_d, wgSet_d, wgNil_d, wgCons_d, wgSeq_t, wgSeq_l, wsNext_d, wsBrk_d, wsCont_d, wsSeq_d, wsIf_d, wsExpr_d, wsRet_d, wsSet_d, wsPar_d, wsPar3_d, wsAsg_d, wsAppend_d, wsExtend_d, wsReverse_d, wsFor_d, wsWhile_d, wFn_d, wFnN_d, wDraw_d, vSub_d, vLt_d, vLe_d, vGt_d, vGe_d, vMax2_d, vMin2_d, vMul_t, vMul_l, vAdd_d, vAdd_t, vAdd_l, vCat_d, vEq_i, vNe_i, vEq_s, vNe_s, vIx_t, vIx_l, tAt_0, tAt_1, tAt_2, vAbs_d, vLen_t, vLen_l, vTuple_l, vTuple_t, vList_l, vList_t, vInt_b, vInt_i, vNotB_d, vIsN_d, vNotN_d, vIx_sh0, vIx_sh1, vEq_sh, vNe_sh, EV.startT, List.map_cons, List.map_nil, List.length_cons, List.length_nil, List.replicate_succ, List.replicate_zero, List.nil_append, List.cons_append, List.append_nil, List.getElem?_cons_zero, List.getElem?_cons_succ, List.set_cons_zero, List.set_cons_succ, Nat.reduceAdd, Nat.reduceSub, Nat.zero_add, wipeT, mIntT, sel, List.filterMap_cons, List.filterMap_nil, Bool.false_eq_true, if_false, if_true, true_and, and_true, and_self, Bool.and_self, Bool.not_true, Bool.not_false, decide_true, decide_false, Option.getD_some]
          · simp only [decide_eq_false h, decide_eq_true (show 1 ≤ j by omega), Bool.true_and, wBin_d, wB2_d, wB1_d, wVar_d, wK_d, wNil_d, wCons_d, wTup_d, wLst_d, wIf_d, wAnd2_d, wOr2_d, wOrT_d, wAndT_d, wNot1_d, wNeg_d, wChain_d, wB_d, wTru_d, wtNot_d, wtAnd_d, wtOr_d, wtTrue_d, woNone_d, woSome_d, wSl_d, wSlL_d, wRevA_d, wApp_d, wAppK_d, wIsi_d, wSeq_d, wR1_d, wR2_d, wEnum_d, wLC_d, wDict0_d, wgSet_d, wgNil_d, wgCons_d, wgSeq_t, wgSeq_l, wsNext_d, wsBrk_d, wsCont_d, wsSeq_d, wsIf_d, wsExpr_d, wsRet_d, wsSet_d, wsPar_d, wsPar3_d, wsAsg_d, wsAppend_d, wsExtend_d, wsReverse_d, wsFor_d, wsWhile_d, wFn_d, wFnN_d, wDraw_d, vSub_d, vLt_d, vLe_d, vGt_d, vGe_d, vMax2_d, vMin2_d, vMul_t, vMul_l, vAdd_d, vAdd_t, vAdd_l, vCat_d, vEq_i, vNe_i, vEq_s, vNe_s, vIx_t, vIx_l, tAt_0, tAt_1, tAt_2, vAbs_d, vLen_t, vLen_l, vTuple_l, vTuple_t, vList_l, vList_t, vInt_b, vInt_i, vNotB_d, vIsN_d, vNotN_d, vIx_sh0, vIx_sh1, vEq_sh, vNe_sh, EV.startT, List.map_cons, List.map_nil, List.length_cons, List.length_nil, List.replicate_succ, List.replicate_zero, List.nil_append, List.cons_append, List.append_nil, List.getElem?_cons_zero, List.getElem?_cons_succ, List.set_cons_zero, List.set_cons_succ, Nat.reduceAdd, Nat.reduceSub, Nat.zero_add, wipeT, mIntT, sel, List.filterMap_cons, List.filterMap_nil, Bool.false_eq_true, if_false, if_true, true_and, and_true, and_self, Bool.and_self, Bool.not_true, Bool.not_false, decide_true, decide_false, Option.getD_some]
            congr 2
            by_cases h2 : Int.gcd i j = 1
            · rw [h2]; rfl
            · have h3 : ((Int.gcd i j : Int) == 1) = false := by rw [beq_eq_false_iff_ne]; omega
              have h4 : (Int.gcd i j == 1) = false := by rw [beq_eq_false_iff_ne]; exact h2
              rw [h3, h4]
        | _ => simp only [T.isInt, Bool.and_false, Bool.and_self, wBin_d, wB2_d, wB1_d, wVar_d, wK_d, wNil_d, wCons_d, wTup_d, wLst_d, wIf_d, wAnd2_d, wOr2_d, wOrT_d, wAndT_d, wNot1_d, wNeg_d, wChain_d, wB_d, wTru_d, wtNot_d, wtAnd_d, wtOr_d, wtTrue_d, woNone_d, woSome_d, wSl_d, wSlL_d, wRevA_d, wApp_d, wAppK_d, wIsi_d, wSeq_d, wR1_d, wR2_d, wEnum_d, wLC_d, wDict0_d, wgSet_d, wgNil_d, wgCons_d, wgSeq_t, wgSeq_l, wsNext_d, wsBrk_d, wsCont_d, wsSeq_d, wsIf_d, wsExpr_d, wsRet_d, wsSet_d, wsPar_d, wsPar3_d, wsAsg_d, wsAppend_d, wsExtend_d, wsReverse_d, wsFor_d, wsWhile_d, wFn_d, wFnN_d, wDraw_d, vSub_d, vLt_d, vLe_d, vGt_d, vGe_d, vMax2_d, vMin2_d, vMul_t, vMul_l, vAdd_d, vAdd_t, vAdd_l, vCat_d, vEq_i, vNe_i, vEq_s, vNe_s, vIx_t, vIx_l, tAt_0, tAt_1, tAt_2, vAbs_d, vLen_t, vLen_l, vTuple_l, vTuple_t, vList_l, vList_t, vInt_b, vInt_i, vNotB_d, vIsN_d, vNotN_d, vIx_sh0, vIx_sh1, vEq_sh, vNe_sh, EV.startT, List.map_cons, List.map_nil, List.length_cons, List.length_nil, List.replicate_succ, List.replicate_zero, List.nil_append, List.cons_append, List.append_nil, List.getElem?_cons_zero, List.getElem?_cons_succ, List.set_cons_zero, List.set_cons_succ, Nat.reduceAdd, Nat.reduceSub, Nat.zero_add, wipeT, mIntT, sel, List.filterMap_cons, List.filterMap_nil, Bool.false_eq_true, if_false, if_true, true_and, and_true, and_self, Bool.and_self, Bool.not_true, Bool.not_false, decide_true, decide_false, Option.getD_some, shareB]
      | _ => simp only [T.isInt, Bool.false_and, wBin_d, wB2_d, wB1_d, wVar_d, wK_d, wNil_d, wCons_d, wTup_d, wLst_d, wIf_d, wAnd2_d, wOr2_d, wOrT_d, wAndT_d, wNot1_d, wNeg_d, wChain_d, wB_d, wTru_d, wtNot_d, wtAnd_d, wtOr_d, wtTrue_d, woNone_d, woSome_d, wSl_d, wSlL_d, wRevA_d, wApp_d, wAppK_d, wIsi_d, wSeq_d, wR1_d, wR2_d, wEnum_d, wLC_d, wDict0_d, wgSet_d, wgNil_d, wgCons_d, wgSeq_t, wgSeq_l, wsNext_d, wsBrk_d, wsCont_d, wsSeq_d, wsIf_d, wsExpr_d, wsRet_d, wsSet_d, wsPar_d, wsPar3_d, wsAsg_d, wsAppend_d, wsExtend_d, wsReverse_d, wsFor_d, wsWhile_d, wFn_d, wFnN_d, wDraw_d, vSub_d, vLt_d, vLe_d, vGt_d, vGe_d, vMax2_d, vMin2_d, vMul_t, vMul_l, vAdd_d, vAdd_t, vAdd_l, vCat_d, vEq_i, vNe_i, vEq_s, vNe_s, vIx_t, vIx_l, tAt_0, tAt_1, tAt_2, vAbs_d, vLen_t, vLen_l, vTuple_l, vTuple_t, vList_l, vList_t, vInt_b, vInt_i, vNotB_d, vIsN_d, vNotN_d, vIx_sh0, vIx_sh1, vEq_sh, vNe_sh, EV.startT, List.map_cons, List.map_nil, List.length_cons, List.length_nil, List.replicate_succ, List.replicate_zero, List.nil_append, List.cons_append, List.append_nil, List.getElem?_cons_zero, List.getElem?_cons_succ, List.set_cons_zero, List.set_cons_succ, Nat.reduceAdd, Nat.reduceSub, Nat.zero_add, wipeT, mIntT, sel, List.filterMap_cons, List.filterMap_nil, Bool.false_eq_true, if_false, if_true, true_and, and_true, and_self, Bool.and_self, Bool.not_true, Bool.not_false, decide_true, decide_false, Option.getD_some, shareB]
  | pen => cases et
  | _ => cases et; rfl
theorem isTx_s {a b : Str} : (T.str a).isTx b = decide (a = b) := rfl
theorem _law_is_line_eq {m w : Nat} {x : T} (hs : Sm m w x) {c : Nat} {Q : QT} : W__law_is_line [x] c Q = Q (.bl (plineB x)) c := by
  have hx : x.repb = true := hs.rb
  have z0 : 0 ≤ sizeLine := Nat.zero_le _
  have n2 : 2 ≤ sizeLine := fitL (by decide)
  unfold W__law_is_line WB__law_is_line
  obtain ⟨ty, et⟩ := T.ty_of (T.repb.nopen hx)
  simp! only [et]
  cases x with
  | tup xs =>
    cases et
    simp only [isSub, decide_true, Bool.true_or, wBin_d, wB2_d, wB1_d, wVar_d, wK_d, wNil_d, wCons_d, wTup_d, wLst_d, wIf_d, wAnd2_d, wOr2_d, wOrT_d, wAndT_d, wNot1_d, wNeg_d, wChain_d, wB_d, wTru_d, wtNot_d, wtAnd_d, wtOr_d, wtTrue_d, woNone_d, woSome_d, wSl_d, wSlL_d, wRevA_d, wApp_d, wAppK_d, wIsi_d, wSeq_d, wR1_d, wR2_d, wEnum_d, wLC_d, wDict0_d, wgSet_d, wgNil_d, wgCons_d, wgSeq_t, wgSeq_l, wsNext_d, wsBrk_d, wsCont_d, wsSeq_d, wsIf_d, wsExpr_d, wsRet_d, wsSet_d, wsPar_d, wsPar3_d, wsAsg_d, wsAppend_d, wsExtend_d, wsReverse_d, wsFor_d, wsWhile_d, wFn_d, wFnN_d, wDraw_d, vSub_d, vLt_d, vLe_d, vGt_d, vGe_d, vMax2_d, vMin2_d, vMul_t, vMul_l, vAdd_d, vAdd_t, vAdd_l, vCat_d, vEq_i, vNe_i, vEq_s, vNe_s, vIx_t, vIx_l, tAt_0, tAt_1, tAt_2, vAbs_d, vLen_t, vLen_l, vTuple_l, vTuple_t, vList_l, vList_t, vInt_b, vInt_i, vNotB_d, vIsN_d, vNotN_d, vIx_sh0, vIx_sh1, vEq_sh, vNe_sh, EV.startT, List.map_cons, List.map_nil, List.length_cons, List.length_nil, List.replicate_succ, List.replicate_zero, List.nil_append, List.cons_append, List.append_nil, List.getElem?_cons_zero, List.getElem?_cons_succ, List.set_cons_zero, List.set_cons_succ, Nat.reduceAdd, Nat.reduceSub, Nat.zero_add, wipeT, mIntT, sel, List.filterMap_cons, List.filterMap_nil, Bool.false_eq_true, if_false, if_true, true_and, and_true, and_self, Bool.and_self, Bool.not_true, Bool.not_false, decide_true, decide_false, Option.getD_some, z0, vEqU_t]
    cases xs with
    | nil => rfl
    | cons v r =>
      have hw := repb_tup hx v (by simp)
      obtain ⟨tw, ew⟩ := T.ty_of (T.repb.nopen hw)
      simp only [List.isEmpty_cons, wBin_d, wB2_d, wB1_d, wVar_d, wK_d, wNil_d, wCons_d, wTup_d, wLst_d, wIf_d, wAnd2_d, wOr2_d, wOrT_d, wAndT_d, wNot1_d, wNeg_d, wChain_d, wB_d, wTru_d, wtNot_d, wtAnd_d, wtOr_d, wtTrue_d, woNone_d, woSome_d, wSl_d, wSlL_d, wRevA_d, wApp_d, wAppK_d, wIsi_d, wSeq_d, wR1_d, wR2_d, wEnum_d, wLC_d, wDict0_d, wgSet_d, wgNil_d, wgCons_d, wgSeq_t, wgSeq_l, wsNext_d, wsBrk_d, wsCont_d, wsSeq_d, wsIf_d, wsExpr_d, wsRet_d, wsSet_d, wsPar_d, wsPar3_d, wsAsg_d, wsAppend_d, wsExtend_d, wsReverse_d, wsFor_d, wsWhile_d, wFn_d, wFnN_d, wDraw_d, vSub_d, vLt_d, vLe_d, vGt_d, vGe_d, vMax2_d, vMin2_d, vMul_t, vMul_l, vAdd_d, vAdd_t, vAdd_l, vCat_d, vEq_i, vNe_i, vEq_s, vNe_s, vIx_t, vIx_l, tAt_0, tAt_1, tAt_2, vAbs_d, vLen_t, vLen_l, vTuple_l, vTuple_t, vList_l, vList_t, vInt_b, vInt_i, vNotB_d, vIsN_d, vNotN_d, vIx_sh0, vIx_sh1, vEq_sh, vNe_sh, EV.startT, List.map_cons, List.map_nil, List.length_cons, List.length_nil, List.replicate_succ, List.replicate_zero, List.nil_append, List.cons_append, List.append_nil, List.getElem?_cons_zero, List.getElem?_cons_succ, List.set_cons_zero, List.set_cons_succ, Nat.reduceAdd, Nat.reduceSub, Nat.zero_add, wipeT, mIntT, sel, List.filterMap_cons, List.filterMap_nil, Bool.false_eq_true, if_false, if_true, true_and, and_true, and_self, Bool.and_self, Bool.not_true, Bool.not_false, decide_true, decide_false, Option.getD_some, ew]
      cases v with
      | str s =>
        cases ew
        have pl : (T.str s).plain = true := (hs.els.mem (.str s) (by simp)).tx
        have in2 : ∀ {P : T → Prop}, vInD false (.str s) (.tup [.str "weight", .str "lot"]) P = P (.bl (decide (s = "weight") || decide (s = "lot"))) := fun {P} => vInD_s2 pl (Sm.str (w := 10) (by decide) (by decide)).tx (Sm.str (w := 10) (by decide) (by decide)).tx
        simp only [isSub, decide_true, Bool.true_or, wBin_d, wB2_d, wB1_d, wVar_d, wK_d, wNil_d, wCons_d, wTup_d, wLst_d, wIf_d, wAnd2_d, wOr2_d, wOrT_d, wAndT_d, wNot1_d, wNeg_d, wChain_d, wB_d, wTru_d, wtNot_d, wtAnd_d, wtOr_d, wtTrue_d, woNone_d, woSome_d, wSl_d, wSlL_d, wRevA_d, wApp_d, wAppK_d, wIsi_d, wSeq_d, wR1_d, wR2_d, wEnum_d, wLC_d, wDict0_d, wgSet_d, wgNil_d, wgCons_d, wgSeq_t, wgSeq_l, wsNext_d, wsBrk_d, wsCont_d, wsSeq_d, wsIf_d, wsExpr_d, wsRet_d, wsSet_d, wsPar_d, wsPar3_d, wsAsg_d, wsAppend_d, wsExtend_d, wsReverse_d, wsFor_d, wsWhile_d, wFn_d, wFnN_d, wDraw_d, vSub_d, vLt_d, vLe_d, vGt_d, vGe_d, vMax2_d, vMin2_d, vMul_t, vMul_l, vAdd_d, vAdd_t, vAdd_l, vCat_d, vEq_i, vNe_i, vEq_s, vNe_s, vIx_t, vIx_l, tAt_0, tAt_1, tAt_2, vAbs_d, vLen_t, vLen_l, vTuple_l, vTuple_t, vList_l, vList_t, vInt_b, vInt_i, vNotB_d, vIsN_d, vNotN_d, vIx_sh0, vIx_sh1, vEq_sh, vNe_sh, EV.startT, List.map_cons, List.map_nil, List.length_cons, List.length_nil, List.replicate_succ, List.replicate_zero, List.nil_append, List.cons_append, List.append_nil, List.getElem?_cons_zero, List.getElem?_cons_succ, List.set_cons_zero, List.set_cons_succ, Nat.reduceAdd, Nat.reduceSub, Nat.zero_add, wipeT, mIntT, sel, List.filterMap_cons, List.filterMap_nil, Bool.false_eq_true, if_false, if_true, true_and, and_true, and_self, Bool.and_self, Bool.not_true, Bool.not_false, decide_true, decide_false, Option.getD_some, n2, in2, vEqS_d (x := .str s) rfl, isTx_s, wGet2_d, tget_s, tget_nil]
        have ex : decide (s = "gap") = true → decide (s = "forget") = false ∧ decide (s = "carries") = false := fun h => by
          have := of_decide_eq_true h
          subst this
          exact ⟨by decide, by decide⟩
        have sw : ∀ t : Str, (if t = s then some (T.int 3) else (none : Option T)) = if decide (s = t) = true then some (T.int 3) else none := fun t => by
          by_cases h : s = t
          · subst h; simp
          · rw [decide_eq_false h, if_neg fun z => h z.symm]; rfl
        have gz : ((if "forget" = s then some (T.int 3) else if "carries" = s then some (T.int 3) else if "see" = s then some (T.int 4) else none).getD (T.int 0)) = T.int (if decide (s = "forget") = true then 3 else if decide (s = "carries") = true then 3 else if decide (s = "see") = true then 4 else 0) := by
          by_cases h1 : s = "forget"
          · subst h1; rfl
          · rw [decide_eq_false h1, if_neg fun z => h1 z.symm]
            by_cases h2 : s = "carries"
            · subst h2; rfl
            · rw [decide_eq_false h2, if_neg fun z => h2 z.symm]
              by_cases h3 : s = "see"
              · subst h3; rfl
              · rw [decide_eq_false h3, if_neg fun z => h3 z.symm]; rfl
        simp only [gz]
        match r, hx with
        | [], _ =>
          have l1 : (((1 : Nat) : Int) == 1) = true := rfl
          have l3 : (((1 : Nat) : Int) == 3) = false := rfl
          have l4 : (((1 : Nat) : Int) == 4) = false := rfl
          have l0 : (((1 : Nat) : Int) == 0) = false := rfl
          simp! only [plineB, isTx_s, l1, l3]
          cases decide (s = "weight") <;> cases decide (s = "lot") <;> cases decide (s = "forget") <;> cases decide (s = "carries") <;> cases decide (s = "gap") <;> cases decide (s = "see") <;> simp! only [l3, l4, l0, Bool.or_self, Bool.true_or, Bool.or_true, Bool.or_false, Bool.false_or]
        | [a], _ =>
          have l1 : (((2 : Nat) : Int) == 1) = false := rfl
          have l3 : (((2 : Nat) : Int) == 3) = false := rfl
          have l4 : (((2 : Nat) : Int) == 4) = false := rfl
          have l0 : (((2 : Nat) : Int) == 0) = false := rfl
          simp! only [plineB, isTx_s, l1, l3]
          cases decide (s = "weight") <;> cases decide (s = "lot") <;> cases decide (s = "forget") <;> cases decide (s = "carries") <;> cases decide (s = "gap") <;> cases decide (s = "see") <;> simp! only [l3, l4, l0, Bool.or_self, Bool.true_or, Bool.or_true, Bool.or_false, Bool.false_or]
        | [a, b], hx =>
          have ha := repb_tup hx a (by simp)
          have hb := repb_tup hx b (by simp)
          have l1 : (((3 : Nat) : Int) == 1) = false := rfl
          have l3 : (((3 : Nat) : Int) == 3) = true := rfl
          have l4 : (((3 : Nat) : Int) == 4) = false := rfl
          have l0 : (((3 : Nat) : Int) == 0) = false := rfl
          have k3 : ((3 : Int) == 3) = true := rfl
          simp! only [plineB, isTx_s, l1, l3, _law_is_number_eq (T.repb.nopen ha), _law_is_number_eq (T.repb.nopen hb), _law_is_share_eq hb]
          rcases Bool.eq_false_or_eq_true (decide (s = "gap")) with q5 | q5
          · obtain ⟨q3, q4⟩ := ex q5
            simp only [q3, q4, q5]
            cases decide (s = "weight") <;> cases decide (s = "lot") <;> cases numB a <;> simp! only [Bool.or_self, Bool.true_or, Bool.or_true, Bool.or_false, Bool.false_or, Bool.true_and, Bool.false_and]
          · simp only [q5]
            cases decide (s = "weight") <;> cases decide (s = "lot") <;> cases decide (s = "forget") <;> cases decide (s = "carries") <;> cases decide (s = "see") <;> cases numB a <;> cases numB b <;> simp! only [l3, l4, l0, k3, Bool.or_self, Bool.true_or, Bool.or_true, Bool.or_false, Bool.false_or, Bool.true_and, Bool.false_and, Bool.and_self]
        | [a, b, d], hx =>
          have ha := repb_tup hx a (by simp)
          have hb := repb_tup hx b (by simp)
          have hd := repb_tup hx d (by simp)
          have l1 : (((4 : Nat) : Int) == 1) = false := rfl
          have l3 : (((4 : Nat) : Int) == 3) = false := rfl
          have l4 : (((4 : Nat) : Int) == 4) = true := rfl
          have l0 : (((4 : Nat) : Int) == 0) = false := rfl
          have k3 : ((4 : Int) == 3) = false := rfl
          simp! only [plineB, isTx_s, l1, l3, _law_is_number_eq (T.repb.nopen ha), _law_is_number_eq (T.repb.nopen hb), _law_are_pairs_eq hd, at3]
          cases decide (s = "weight") <;> cases decide (s = "lot") <;> cases decide (s = "forget") <;> cases decide (s = "carries") <;> cases decide (s = "gap") <;> cases decide (s = "see") <;> cases numB a <;> cases numB b <;> simp! only [l3, l4, l0, k3, Bool.or_self, Bool.true_or, Bool.or_true, Bool.or_false, Bool.false_or, Bool.true_and, Bool.false_and, Bool.and_self]
        | a :: b :: d :: e :: r, hx =>
          have l1 : (((r.length + 1 + 1 + 1 + 1 + 1 : Nat) : Int) == 1) = false := by rw [beq_eq_false_iff_ne]; omega
          have l3 : (((r.length + 1 + 1 + 1 + 1 + 1 : Nat) : Int) == 3) = false := by rw [beq_eq_false_iff_ne]; omega
          have l4 : (((r.length + 1 + 1 + 1 + 1 + 1 : Nat) : Int) == 4) = false := by rw [beq_eq_false_iff_ne]; omega
          have l0 : (((r.length + 1 + 1 + 1 + 1 + 1 : Nat) : Int) == 0) = false := by rw [beq_eq_false_iff_ne]; omega
          simp! only [plineB, isTx_s, l1, l3]
          cases decide (s = "weight") <;> cases decide (s = "lot") <;> cases decide (s = "forget") <;> cases decide (s = "carries") <;> cases decide (s = "gap") <;> cases decide (s = "see") <;> simp! only [l3, l4, l0, Bool.or_self, Bool.true_or, Bool.or_true, Bool.or_false, Bool.false_or]
      | pen => cases ew
      | _ =>
        cases ew
        have : ∀ {v : T}, v.ty ≠ some .str → plineB (.tup (v :: r)) = false := fun {v} hv => by
          have t : ∀ b : Str, v.isTx b = false := fun b => by
            cases v with
            | str s => exact (hv rfl).elim
            | _ => rfl
          match r with
          | [] => simp only [plineB, t, Bool.or_self]
          | [a] => simp only [plineB]
          | [a, b] => simp only [plineB, t, Bool.or_self, Bool.false_and, Bool.and_false, Bool.false_eq_true, if_false]
          | [a, b, d] => simp only [plineB, t, Bool.or_self, Bool.false_and, Bool.and_false]
          | a :: b :: d :: e :: r => simp only [plineB]
        rw [this (by simp [T.ty])]
        rfl
  | pen => cases et
  | _ => cases et; rfl
theorem _law_due_eq {m w : Nat} {x : T} (hx : Sm m w x) {c : Nat} {Q : QT} : W__law_due [x] c Q = Q (.bl (progB x)) c := by
  have z0 : 0 ≤ sizeLine := Nat.zero_le _
  unfold W__law_due WB__law_due
  obtain ⟨ty, et⟩ := T.ty_of (T.repb.nopen hx.rb)
  simp! only [et]
  cases x with
  | tup xs =>
    cases et
    simp only [isSub, decide_true, Bool.true_or, wBin_d, wB2_d, wB1_d, wVar_d, wK_d, wNil_d, wCons_d, wTup_d, wLst_d, wIf_d, wAnd2_d, wOr2_d, wOrT_d, wAndT_d, wNot1_d, wNeg_d, wChain_d, wB_d, wTru_d, wtNot_d, wtAnd_d, wtOr_d, wtTrue_d, woNone_d, woSome_d, wSl_d, wSlL_d, wRevA_d, wApp_d, wAppK_d, wIsi_d, wSeq_d, wR1_d, wR2_d, wEnum_d, wLC_d, wDict0_d, wgSet_d, wgNil_d, wgCons_d, wgSeq_t, wgSeq_l, wsNext_d, wsBrk_d, wsCont_d, wsSeq_d, wsIf_d, wsExpr_d, wsRet_d, wsSet_d, wsPar_d, wsPar3_d, wsAsg_d, wsAppend_d, wsExtend_d, wsReverse_d, wsFor_d, wsWhile_d, wFn_d, wFnN_d, wDraw_d, vSub_d, vLt_d, vLe_d, vGt_d, vGe_d, vMax2_d, vMin2_d, vMul_t, vMul_l, vAdd_d, vAdd_t, vAdd_l, vCat_d, vEq_i, vNe_i, vEq_s, vNe_s, vIx_t, vIx_l, tAt_0, tAt_1, tAt_2, vAbs_d, vLen_t, vLen_l, vTuple_l, vTuple_t, vList_l, vList_t, vInt_b, vInt_i, vNotB_d, vIsN_d, vNotN_d, vIx_sh0, vIx_sh1, vEq_sh, vNe_sh, EV.startT, List.map_cons, List.map_nil, List.length_cons, List.length_nil, List.replicate_succ, List.replicate_zero, List.nil_append, List.cons_append, List.append_nil, List.getElem?_cons_zero, List.getElem?_cons_succ, List.set_cons_zero, List.set_cons_succ, Nat.reduceAdd, Nat.reduceSub, Nat.zero_add, wipeT, mIntT, sel, List.filterMap_cons, List.filterMap_nil, Bool.false_eq_true, if_false, if_true, true_and, and_true, and_self, Bool.and_self, Bool.not_true, Bool.not_false, decide_true, decide_false, Option.getD_some]
    by_cases h : 12 < (xs.length : Int)
    · have hp : progB (.tup xs) = false := by
        simp only [progB, T.tupB]
        rw [decide_eq_false (show ¬ (xs.length : Int) ≤ 12 by omega), Bool.and_false, Bool.false_and]
      simp only [decide_eq_true h, wBin_d, wB2_d, wB1_d, wVar_d, wK_d, wNil_d, wCons_d, wTup_d, wLst_d, wIf_d, wAnd2_d, wOr2_d, wOrT_d, wAndT_d, wNot1_d, wNeg_d, wChain_d, wB_d, wTru_d, wtNot_d, wtAnd_d, wtOr_d, wtTrue_d, woNone_d, woSome_d, wSl_d, wSlL_d, wRevA_d, wApp_d, wAppK_d, wIsi_d, wSeq_d, wR1_d, wR2_d, wEnum_d, wLC_d, wDict0_d, wgSet_d, wgNil_d, wgCons_d, wgSeq_t, wgSeq_l, wsNext_d, wsBrk_d, wsCont_d, wsSeq_d, wsIf_d, wsExpr_d, wsRet_d, wsSet_d, wsPar_d, wsPar3_d, wsAsg_d, wsAppend_d, wsExtend_d, wsReverse_d, wsFor_d, wsWhile_d, wFn_d, wFnN_d, wDraw_d, vSub_d, vLt_d, vLe_d, vGt_d, vGe_d, vMax2_d, vMin2_d, vMul_t, vMul_l, vAdd_d, vAdd_t, vAdd_l, vCat_d, vEq_i, vNe_i, vEq_s, vNe_s, vIx_t, vIx_l, tAt_0, tAt_1, tAt_2, vAbs_d, vLen_t, vLen_l, vTuple_l, vTuple_t, vList_l, vList_t, vInt_b, vInt_i, vNotB_d, vIsN_d, vNotN_d, vIx_sh0, vIx_sh1, vEq_sh, vNe_sh, EV.startT, List.map_cons, List.map_nil, List.length_cons, List.length_nil, List.replicate_succ, List.replicate_zero, List.nil_append, List.cons_append, List.append_nil, List.getElem?_cons_zero, List.getElem?_cons_succ, List.set_cons_zero, List.set_cons_succ, Nat.reduceAdd, Nat.reduceSub, Nat.zero_add, wipeT, mIntT, sel, List.filterMap_cons, List.filterMap_nil, Bool.false_eq_true, if_false, if_true, true_and, and_true, and_self, Bool.and_self, Bool.not_true, Bool.not_false, decide_true, decide_false, Option.getD_some, hp]
    · simp only [decide_eq_false h, wBin_d, wB2_d, wB1_d, wVar_d, wK_d, wNil_d, wCons_d, wTup_d, wLst_d, wIf_d, wAnd2_d, wOr2_d, wOrT_d, wAndT_d, wNot1_d, wNeg_d, wChain_d, wB_d, wTru_d, wtNot_d, wtAnd_d, wtOr_d, wtTrue_d, woNone_d, woSome_d, wSl_d, wSlL_d, wRevA_d, wApp_d, wAppK_d, wIsi_d, wSeq_d, wR1_d, wR2_d, wEnum_d, wLC_d, wDict0_d, wgSet_d, wgNil_d, wgCons_d, wgSeq_t, wgSeq_l, wsNext_d, wsBrk_d, wsCont_d, wsSeq_d, wsIf_d, wsExpr_d, wsRet_d, wsSet_d, wsPar_d, wsPar3_d, wsAsg_d, wsAppend_d, wsExtend_d, wsReverse_d, wsFor_d, wsWhile_d, wFn_d, wFnN_d, wDraw_d, vSub_d, vLt_d, vLe_d, vGt_d, vGe_d, vMax2_d, vMin2_d, vMul_t, vMul_l, vAdd_d, vAdd_t, vAdd_l, vCat_d, vEq_i, vNe_i, vEq_s, vNe_s, vIx_t, vIx_l, tAt_0, tAt_1, tAt_2, vAbs_d, vLen_t, vLen_l, vTuple_l, vTuple_t, vList_l, vList_t, vInt_b, vInt_i, vNotB_d, vIsN_d, vNotN_d, vIx_sh0, vIx_sh1, vEq_sh, vNe_sh, EV.startT, List.map_cons, List.map_nil, List.length_cons, List.length_nil, List.replicate_succ, List.replicate_zero, List.nil_append, List.cons_append, List.append_nil, List.getElem?_cons_zero, List.getElem?_cons_succ, List.set_cons_zero, List.set_cons_succ, Nat.reduceAdd, Nat.reduceSub, Nat.zero_add, wipeT, mIntT, sel, List.filterMap_cons, List.filterMap_nil, Bool.false_eq_true, if_false, if_true, true_and, and_true, and_self, Bool.and_self, Bool.not_true, Bool.not_false, decide_true, decide_false, Option.getD_some]
      have := wlc_pure (g := wgSet 1) (t := (wtNot (wB (wApp W__law_is_line (wCons (wVar 1) wNil))))) (e := wVar 1) (τ0 := [some (.tup xs), none]) (Q := fun x c1 => 0 ≤ sizeLine ∧ vEqL false x (.lst []) fun z => Q z c1) (c := c) (fun y => !plineB y) id xs [] (fun y hy K K0 => by
        simp! only [_law_is_line_eq (hx.els.mem y hy), id_eq]) (by rw [List.length_nil]; exact fitL (by omega))
      rw [List.nil_append, List.map_id] at this
      rw [this, eq_true z0, true_and, vEqL_e, filter_empty]
      simp only [progB, T.tupB]
      rw [decide_eq_true (show (0 : Int) ≤ (xs.length : Int) by omega), decide_eq_true (show (xs.length : Int) ≤ 12 by omega), Bool.and_self, Bool.true_and]
  | pen => cases et
  | _ => cases et; rfl
end Mine
set_option Elab.async false
set_option linter.all false
set_option autoImplicit false
set_option maxRecDepth 100000
namespace Mine
open PySem PySem.Spec PyProof.Rows L2 EV
set_option maxHeartbeats 1000000
local macro_rules | `(tactic| simp! only [$xs,*]) => `(tactic| simp only [wBin_d, wB2_d, wB1_d, wVar_d, wK_d, wNil_d, wCons_d, wTup_d, wLst_d, wIf_d, wAnd2_d, wOr2_d, wOrT_d, wAndT_d, wNot1_d, wNeg_d, wChain_d, wB_d, wTru_d, wtNot_d, wtAnd_d, wtOr_d, wtTrue_d, woNone_d, woSome_d, wSl_d, wSlL_d, wRevA_d, wApp_d, wAppK_d, wIsi_d, wSeq_d, wR1_d, wR2_d, wEnum_d, wLC_d, wDict0_d, wgSet_d, wgNil_d, wgCons_d, wgSeq_t, wgSeq_l, wsNext_d, wsBrk_d, wsCont_d, wsSeq_d, wsIf_d, wsExpr_d, wsRet_d, wsSet_d, wsPar_d, wsPar3_d, wsAsg_d, wsAppend_d, wsExtend_d, wsReverse_d, wsFor_d, wsWhile_d, wFn_d, wFnN_d, wDraw_d, vSub_d, vLt_d, vLe_d, vGt_d, vGe_d, vMax2_d, vMin2_d, vMul_t, vMul_l, vAdd_d, vAdd_t, vAdd_l, vCat_d, vEq_i, vNe_i, vEq_s, vNe_s, vIx_t, vIx_l, tAt_0, tAt_1, tAt_2, vAbs_d, vLen_t, vLen_l, vTuple_l, vTuple_t, vList_l, vList_t, vInt_b, vInt_i, vNotB_d, vIsN_d, vNotN_d, vIx_sh0, vIx_sh1, vEq_sh, vNe_sh, EV.startT, List.map_cons, List.map_nil, List.length_cons, List.length_nil, List.replicate_succ, List.replicate_zero, List.nil_append, List.cons_append, List.append_nil, List.getElem?_cons_zero, List.getElem?_cons_succ, List.set_cons_zero, List.set_cons_succ, Nat.reduceAdd, Nat.reduceSub, Nat.zero_add, wipeT, mIntT, sel, List.filterMap_cons, List.filterMap_nil, Bool.false_eq_true, if_false, if_true, true_and, and_true, and_self, Bool.and_self, Bool.not_true, Bool.not_false, decide_true, decide_false, Option.getD_some, $xs,*])
local macro_rules | `(tactic| simp! only [$xs,*] $l:location) => `(tactic| simp only [wBin_d, wB2_d, wB1_d, wVar_d, wK_d, wNil_d, wCons_d, wTup_d, wLst_d, wIf_d, wAnd2_d, wOr2_d, wOrT_d, wAndT_d, wNot1_d, wNeg_d, wChain_d, wB_d, wTru_d, wtNot_d, wtAnd_d, wtOr_d, wtTrue_d, woNone_d, woSome_d, wSl_d, wSlL_d, wRevA_d, wApp_d, wAppK_d, wIsi_d, wSeq_d, wR1_d, wR2_d, wEnum_d, wLC_d, wDict0_d, wgSet_d, wgNil_d, wgCons_d, wgSeq_t, wgSeq_l, wsNext_d, wsBrk_d, wsCont_d, wsSeq_d, wsIf_d, wsExpr_d, wsRet_d, wsSet_d, wsPar_d, wsPar3_d, wsAsg_d, wsAppend_d, wsExtend_d, wsReverse_d, wsFor_d, wsWhile_d, wFn_d, wFnN_d, wDraw_d, vSub_d, vLt_d, vLe_d, vGt_d, vGe_d, vMax2_d, vMin2_d, vMul_t, vMul_l, vAdd_d, vAdd_t, vAdd_l, vCat_d, vEq_i, vNe_i, vEq_s, vNe_s, vIx_t, vIx_l, tAt_0, tAt_1, tAt_2, vAbs_d, vLen_t, vLen_l, vTuple_l, vTuple_t, vList_l, vList_t, vInt_b, vInt_i, vNotB_d, vIsN_d, vNotN_d, vIx_sh0, vIx_sh1, vEq_sh, vNe_sh, EV.startT, List.map_cons, List.map_nil, List.length_cons, List.length_nil, List.replicate_succ, List.replicate_zero, List.nil_append, List.cons_append, List.append_nil, List.getElem?_cons_zero, List.getElem?_cons_succ, List.set_cons_zero, List.set_cons_succ, Nat.reduceAdd, Nat.reduceSub, Nat.zero_add, wipeT, mIntT, sel, List.filterMap_cons, List.filterMap_nil, Bool.false_eq_true, if_false, if_true, true_and, and_true, and_self, Bool.and_self, Bool.not_true, Bool.not_false, decide_true, decide_false, Option.getD_some, $xs,*] $l:location)
local macro_rules | `(tactic| dsimp! only [$xs,*]) => `(tactic| simp only [wBin_d, wB2_d, wB1_d, wVar_d, wK_d, wNil_d, wCons_d, wTup_d, wLst_d, wIf_d, wAnd2_d, wOr2_d, wOrT_d, wAndT_d, wNot1_d, wNeg_d, wChain_d, wB_d, wTru_d, wtNot_d, wtAnd_d, wtOr_d, wtTrue_d, woNone_d, woSome_d, wSl_d, wSlL_d, wRevA_d, wApp_d, wAppK_d, wIsi_d, wSeq_d, wR1_d, wR2_d, wEnum_d, wLC_d, wDict0_d, wgSet_d, wgNil_d, wgCons_d, wgSeq_t, wgSeq_l, wsNext_d, wsBrk_d, wsCont_d, wsIf_d, wsExpr_d, wsRet_d, wsSet_d, wsPar_d, wsPar3_d, wsAsg_d, wsAppend_d, wsExtend_d, wsReverse_d, wsFor_d, wsWhile_d, wFn_d, wFnN_d, wDraw_d, vSub_d, vLt_d, vLe_d, vGt_d, vGe_d, vMax2_d, vMin2_d, vMul_t, vMul_l, vAdd_d, vAdd_t, vAdd_l, vCat_d, vEq_i, vNe_i, vEq_s, vNe_s, vIx_t, vIx_l, tAt_0, tAt_1, tAt_2, vAbs_d, vLen_t, vLen_l, vTuple_l, vTuple_t, vList_l, vList_t, vInt_b, vInt_i, vNotB_d, vIsN_d, vNotN_d, vIx_sh0, vIx_sh1, vEq_sh, vNe_sh, EV.startT, List.map_cons, List.map_nil, List.length_cons, List.length_nil, List.replicate_succ, List.replicate_zero, List.nil_append, List.cons_append, List.append_nil, List.getElem?_cons_zero, List.getElem?_cons_succ, List.set_cons_zero, List.set_cons_succ, Nat.reduceAdd, Nat.reduceSub, Nat.zero_add, wipeT, mIntT, sel, List.filterMap_cons, List.filterMap_nil, Bool.false_eq_true, if_false, if_true, true_and, and_true, and_self, Bool.and_self, Bool.not_true, Bool.not_false, decide_true, decide_false, Option.getD_some, $xs,*])
local macro_rules | `(tactic| dsimp! only [$xs,*] $l:location) => `(tactic| simp only [wBin_d, wB2_d, wB1_d, wVar_d, wK_d, wNil_d, wCons_d, wTup_d, wLst_d, wIf_d, wAnd2_d, wOr2_d, wOrT_d, wAndT_d, wNot1_d, wNeg_d, wChain_d, wB_d, wTru_d, wtNot_d, wtAnd_d, wtOr_d, wtTrue_d, woNone_d, woSome_d, wSl_d, wSlL_d, wRevA_d, wApp_d, wAppK_d, wIsi_d, wSeq_d, wR1_d, wR2_d, wEnum_d, wLC_d, wDict0_d, wgSet_d, wgNil_d, wgCons_d, wgSeq_t, wgSeq_l, wsNext_d, wsBrk_d, wsCont_d, wsIf_d, wsExpr_d, wsRet_d, wsSet_d, wsPar_d, wsPar3_d, wsAsg_d, wsAppend_d, wsExtend_d, wsReverse_d, wsFor_d, wsWhile_d, wFn_d, wFnN_d, wDraw_d, vSub_d, vLt_d, vLe_d, vGt_d, vGe_d, vMax2_d, vMin2_d, vMul_t, vMul_l, vAdd_d, vAdd_t, vAdd_l, vCat_d, vEq_i, vNe_i, vEq_s, vNe_s, vIx_t, vIx_l, tAt_0, tAt_1, tAt_2, vAbs_d, vLen_t, vLen_l, vTuple_l, vTuple_t, vList_l, vList_t, vInt_b, vInt_i, vNotB_d, vIsN_d, vNotN_d, vIx_sh0, vIx_sh1, vEq_sh, vNe_sh, EV.startT, List.map_cons, List.map_nil, List.length_cons, List.length_nil, List.replicate_succ, List.replicate_zero, List.nil_append, List.cons_append, List.append_nil, List.getElem?_cons_zero, List.getElem?_cons_succ, List.set_cons_zero, List.set_cons_succ, Nat.reduceAdd, Nat.reduceSub, Nat.zero_add, wipeT, mIntT, sel, List.filterMap_cons, List.filterMap_nil, Bool.false_eq_true, if_false, if_true, true_and, and_true, and_self, Bool.and_self, Bool.not_true, Bool.not_false, decide_true, decide_false, Option.getD_some, $xs,*] $l:location)
theorem oAddA_i {i j : Int} {h : AH} : oAddA (.int i) (.int j) h = .ok (.int (i + j)) h := id rfl
theorem oMulA_l {i j : Int} {h : AH} (h1 : -18446744073709551616 < i) (h2 : i < 18446744073709551616) : oMulA (.int i) (.int j) h = .ok (.int (i * j)) h := by
  unfold oMulA orOp; rw [oMul_l h1 h2]
theorem oMulA_r {i j : Int} {h : AH} (h1 : -18446744073709551616 < j) (h2 : j < 18446744073709551616) : oMulA (.int i) (.int j) h = .ok (.int (i * j)) h := by
  unfold oMulA orOp; rw [oMul_r h1 h2]
theorem bInt_b {b : Bool} {h : AH} : bInt [.bl b] h = .ok (.int (if b then 1 else 0)) h := id rfl
theorem draw_ok : DrawOk F__law_take := fun h p c cs a l n P hn hn2 ha => by
  have main : ∃ r a' l' g, B__law_take (startD 7 [.ref p, .int n]) h = .ok (.ret (.int r)) (h.set p (penO c a' l') ++ g) ∧ 0 ≤ r ∧ r < n ∧ 0 ≤ a' ∧ a' ≤ a + 1 ∧ 0 ≤ l' := by
    have s0 : startD 7 [.ref p, .int n] = [some (.ref p), some (.int n), none, none, none, none, none] := rfl
    rw [s0]
    obtain ⟨i0, i1, i2⟩ := pen_ix P.pen
    have a0 := P.a0
    have l0 := P.l0
    unfold B__law_take
    by_cases hl : 0 < l
    · rw [seq_r (v := .int (l % n)) (h1 := h.set p (penO c a (l / n))) (by simp (disch := omega) only [sSeq_d, sSet_d, eBin_d, eK_d, eVar_d, bind_ok, List.getElem?_cons_zero, List.getElem?_cons_succ, List.set_cons_zero, List.set_cons_succ, sIf_d, tB_d, oGt_i, oLt_i, oGe_i, oLe_i, oNe_i, oEq_i, Bool.false_eq_true, if_false, if_true, sPut_d, sRet_d, sNext_d, oAddA_i, oSub_i, eApp_d, aCons_d, aNil_d, bAbs_i, bInt_b, sPar_d, eTup_d, eNeg_d, List.length_cons, List.length_nil, tAnd2_d, i2, decide_eq_true hl, oMod_p, oFdiv_p, (pen_st P.pen _).2])]
      exact ⟨_, a, l / n, [], by rw [List.append_nil], Int.emod_nonneg _ (by omega), Int.emod_lt_of_pos _ hn, a0, by omega, Int.ediv_nonneg l0 (by omega)⟩
    · have l00 : l = 0 := by omega
      subst l00
      rw [seq_n (if_fn (h1 := h) (by simp only [sSeq_d, sSet_d, eBin_d, eK_d, eVar_d, bind_ok, List.getElem?_cons_zero, List.getElem?_cons_succ, List.set_cons_zero, List.set_cons_succ, sIf_d, tB_d, oGt_i, oLt_i, oGe_i, oLe_i, oNe_i, oEq_i, Bool.false_eq_true, if_false, if_true, sPut_d, sRet_d, sNext_d, oAddA_i, oSub_i, eApp_d, aCons_d, aNil_d, bAbs_i, bInt_b, sPar_d, eTup_d, eNeg_d, List.length_cons, List.length_nil, tAnd2_d, i2]; rfl))]
      rw [seq_n (set_n (h1 := h) (x := .int a) (by simp only [sSeq_d, sSet_d, eBin_d, eK_d, eVar_d, bind_ok, List.getElem?_cons_zero, List.getElem?_cons_succ, List.set_cons_zero, List.set_cons_succ, sIf_d, tB_d, oGt_i, oLt_i, oGe_i, oLe_i, oNe_i, oEq_i, Bool.false_eq_true, if_false, if_true, sPut_d, sRet_d, sNext_d, oAddA_i, oSub_i, eApp_d, aCons_d, aNil_d, bAbs_i, bInt_b, sPar_d, eTup_d, eNeg_d, List.length_cons, List.length_nil, tAnd2_d, i1]))]
      simp only [List.set_cons_zero, List.set_cons_succ]
      rw [seq_n (σ1 := [some (.ref p), some (.int n), some (.int (a)), none, none, none, none]) (h1 := h.set p (penO c (a + 1) 0)) (by simp only [sSeq_d, sSet_d, eBin_d, eK_d, eVar_d, bind_ok, List.getElem?_cons_zero, List.getElem?_cons_succ, List.set_cons_zero, List.set_cons_succ, sIf_d, tB_d, oGt_i, oLt_i, oGe_i, oLe_i, oNe_i, oEq_i, Bool.false_eq_true, if_false, if_true, sPut_d, sRet_d, sNext_d, oAddA_i, oSub_i, eApp_d, aCons_d, aNil_d, bAbs_i, bInt_b, sPar_d, eTup_d, eNeg_d, List.length_cons, List.length_nil, tAnd2_d, (pen_st P.pen _).1])]
      have P1 := P.set (a' := a + 1) (l' := 0) (by omega) (by omega)
      generalize hk : h.set p (penO c (a + 1) 0) = k at P1
      have q0 : 0 ≤ a * a := Int.mul_nonneg a0 a0
      have q00 : a * a ≤ 1000000 * a := Int.mul_le_mul_of_nonneg_right (by omega) a0
      rw [seq_n (set_n (h1 := k) (x := .int (139)) (by simp (disch := omega) only [sSeq_d, sSet_d, eBin_d, eK_d, eVar_d, bind_ok, List.getElem?_cons_zero, List.getElem?_cons_succ, List.set_cons_zero, List.set_cons_succ, sIf_d, tB_d, oGt_i, oLt_i, oGe_i, oLe_i, oNe_i, oEq_i, Bool.false_eq_true, if_false, if_true, sPut_d, sRet_d, sNext_d, oAddA_i, oSub_i, eApp_d, aCons_d, aNil_d, bAbs_i, bInt_b, sPar_d, eTup_d, eNeg_d, List.length_cons, List.length_nil, tAnd2_d, oMulA_l]))]
      simp only [List.set_cons_zero, List.set_cons_succ]
      have nil0 : (0 : Nat) ≤ sizeLine := Nat.zero_le _
      have P2 := P1.app []
      rw [List.append_nil] at P2
      obtain ⟨j0, j1, j2⟩ := pen_ix P1.pen
      obtain ⟨k0, k1, k2⟩ := pen_ix P2.pen
      
      
      -- the cell
      obtain ⟨v, hv⟩ : ∃ v : Int, (sIf (EV.tB (eBin oGt (eApp bLen (aCons (eBin oIx (eVar 0) (eK (.int 0))) aNil)) (eK (.int 0)))) (sSet 3 (eBin oIx (eBin oIx (eVar 0) (eK (.int 0))) (eBin oMod (eVar 2) (eApp bLen (aCons (eBin oIx (eVar 0) (eK (.int 0))) aNil))))) sNext)
          [some (.ref p), some (.int n), some (.int (a)), some (.int (139)), none, none, none] k = .ok (.next [some (.ref p), some (.int n), some (.int (a)), some (.int (v)), none, none, none]) (k) := by
        by_cases hc : cs = []
        · refine ⟨139, ?_⟩
          subst hc; rw [if_fn (h1 := k) (by simp only [sSeq_d, sSet_d, eBin_d, eK_d, eVar_d, bind_ok, List.getElem?_cons_zero, List.getElem?_cons_succ, List.set_cons_zero, List.set_cons_succ, sIf_d, tB_d, oGt_i, oLt_i, oGe_i, oLe_i, oNe_i, oEq_i, Bool.false_eq_true, if_false, if_true, sPut_d, sRet_d, sNext_d, oAddA_i, oSub_i, eApp_d, aCons_d, aNil_d, bAbs_i, bInt_b, sPar_d, eTup_d, eNeg_d, List.length_cons, List.length_nil, tAnd2_d, j0, bLen_lst P1.cells, List.map_nil]; rfl)]
        · have hcl : 0 < (cs.length : Int) := by
            have : cs.length ≠ 0 := fun z => hc (List.length_eq_zero_iff.mp z)
            omega
          have hm0 := Int.emod_nonneg a (show (cs.length : Int) ≠ 0 by omega)
          have hm1 := Int.emod_lt_of_pos a hcl
          obtain ⟨v, hv⟩ : ∃ v, cs[(a % (cs.length : Int)).toNat]? = some v := ⟨cs[(a % (cs.length : Int)).toNat]'(by omega), List.getElem?_eq_getElem (by omega)⟩
          have hv' : (cs.map D.int)[(a % (cs.length : Int)).toNat]? = some (.int v) := by rw [List.getElem?_map, hv]; rfl
          refine ⟨v, ?_⟩
          rw [if_t (h1 := k) (by simp only [sSeq_d, sSet_d, eBin_d, eK_d, eVar_d, bind_ok, List.getElem?_cons_zero, List.getElem?_cons_succ, List.set_cons_zero, List.set_cons_succ, sIf_d, tB_d, oGt_i, oLt_i, oGe_i, oLe_i, oNe_i, oEq_i, Bool.false_eq_true, if_false, if_true, sPut_d, sRet_d, sNext_d, oAddA_i, oSub_i, eApp_d, aCons_d, aNil_d, bAbs_i, bInt_b, sPar_d, eTup_d, eNeg_d, List.length_cons, List.length_nil, tAnd2_d, j0, bLen_lst P1.cells, List.length_map, decide_eq_true hcl])]
          simp (disch := omega) only [sSeq_d, sSet_d, eBin_d, eK_d, eVar_d, bind_ok, List.getElem?_cons_zero, List.getElem?_cons_succ, List.set_cons_zero, List.set_cons_succ, sIf_d, tB_d, oGt_i, oLt_i, oGe_i, oLe_i, oNe_i, oEq_i, Bool.false_eq_true, if_false, if_true, sPut_d, sRet_d, sNext_d, oAddA_i, oSub_i, eApp_d, aCons_d, aNil_d, bAbs_i, bInt_b, sPar_d, eTup_d, eNeg_d, List.length_cons, List.length_nil, tAnd2_d, k0, bLen_lst P2.cells, oMod_p, List.length_map, oIx_ref P2.cells, seqAt_n hm0 hv']
      rw [seq_n hv]
      generalize hk2 : k = m at P2 k0 k1 k2
      have ten18 : (10 : Int) ^ Int.toNat 18 = 1000000000000000000 := by decide
      have m0 : m = h.set p (penO c (a + 1) 0) ++ [] := by rw [← hk2, ← hk]; simp
      by_cases hb : a < (cs.length : Int) ∧ (1000000000000000000 : Int) ≤ (if v < 0 then -v else v)
      · have g0 : 0 ≤ 2 * (if v < 0 then -v else v) + (if decide (v < 0) = true then 1 else 0) := by split <;> split <;> omega
        rw [seq_r (v := .int ((2 * (if v < 0 then -v else v) + (if decide (v < 0) = true then 1 else 0)) % n)) (h1 := m.set p (penO c (a + 1) ((2 * (if v < 0 then -v else v) + (if decide (v < 0) = true then 1 else 0)) / n))) (by simp (disch := omega) only [sSeq_d, sSet_d, eBin_d, eK_d, eVar_d, bind_ok, List.getElem?_cons_zero, List.getElem?_cons_succ, List.set_cons_zero, List.set_cons_succ, sIf_d, tB_d, oGt_i, oLt_i, oGe_i, oLe_i, oNe_i, oEq_i, Bool.false_eq_true, if_false, if_true, sPut_d, sRet_d, sNext_d, oAddA_i, oSub_i, eApp_d, aCons_d, aNil_d, bAbs_i, bInt_b, sPar_d, eTup_d, eNeg_d, List.length_cons, List.length_nil, tAnd2_d, k0, bLen_lst P2.cells, List.length_map, decide_eq_true hb.1, decide_eq_true hb.2, oPow_s, ten18, oMulA_l, oFdiv_p, oMod_p, (pen_st P2.pen _).2])]
        refine ⟨(2 * (if v < 0 then -v else v) + (if decide (v < 0) = true then 1 else 0)) % n, a + 1, (2 * (if v < 0 then -v else v) + (if decide (v < 0) = true then 1 else 0)) / n, [], ?_, Int.emod_nonneg _ (by omega), Int.emod_lt_of_pos _ hn, by omega, by omega, Int.ediv_nonneg g0 (by omega)⟩
        rw [m0, List.set_append_left _ _ (by simpa using P.pl), List.set_set]
      · rw [seq_n (if_fn (h1 := m) (by
          by_cases h1 : a < (cs.length : Int)
          · have h2 : ¬ (1000000000000000000 : Int) ≤ (if v < 0 then -v else v) := fun z => hb ⟨h1, z⟩
            simp (disch := omega) only [sSeq_d, sSet_d, eBin_d, eK_d, eVar_d, bind_ok, List.getElem?_cons_zero, List.getElem?_cons_succ, List.set_cons_zero, List.set_cons_succ, sIf_d, tB_d, oGt_i, oLt_i, oGe_i, oLe_i, oNe_i, oEq_i, Bool.false_eq_true, if_false, if_true, sPut_d, sRet_d, sNext_d, oAddA_i, oSub_i, eApp_d, aCons_d, aNil_d, bAbs_i, bInt_b, sPar_d, eTup_d, eNeg_d, List.length_cons, List.length_nil, tAnd2_d, k0, bLen_lst P2.cells, List.length_map, decide_eq_true h1, decide_eq_false h2, oPow_s, ten18]
          · simp (disch := omega) only [sSeq_d, sSet_d, eBin_d, eK_d, eVar_d, bind_ok, List.getElem?_cons_zero, List.getElem?_cons_succ, List.set_cons_zero, List.set_cons_succ, sIf_d, tB_d, oGt_i, oLt_i, oGe_i, oLe_i, oNe_i, oEq_i, Bool.false_eq_true, if_false, if_true, sPut_d, sRet_d, sNext_d, oAddA_i, oSub_i, eApp_d, aCons_d, aNil_d, bAbs_i, bInt_b, sPar_d, eTup_d, eNeg_d, List.length_cons, List.length_nil, tAnd2_d, k0, bLen_lst P2.cells, List.length_map, decide_eq_false h1]))]
        have m1 := Int.emod_nonneg v (show (2147483587 : Int) ≠ 0 by decide)
        have m2 := Int.emod_lt_of_pos v (show (0 : Int) < 2147483587 by decide)
        have m3 := Int.emod_nonneg v (show (1039 : Int) ≠ 0 by decide)
        have m4 := Int.emod_lt_of_pos v (show (0 : Int) < 1039 by decide)
        rw [seq_n (set_n (h1 := m) (x := .int ((v % 2147483587 + 8231 * a + 401) ^ Int.toNat 3 % 2147483647)) (by simp (disch := omega) only [sSeq_d, sSet_d, eBin_d, eK_d, eVar_d, bind_ok, List.getElem?_cons_zero, List.getElem?_cons_succ, List.set_cons_zero, List.set_cons_succ, sIf_d, tB_d, oGt_i, oLt_i, oGe_i, oLe_i, oNe_i, oEq_i, Bool.false_eq_true, if_false, if_true, sPut_d, sRet_d, sNext_d, oAddA_i, oSub_i, eApp_d, aCons_d, aNil_d, bAbs_i, bInt_b, sPar_d, eTup_d, eNeg_d, List.length_cons, List.length_nil, tAnd2_d, oMod_p, oMulA_l, oMulA_r, oPow_s]))]
        simp only [List.set_cons_zero, List.set_cons_succ]
        generalize hs : (v % 2147483587 + 8231 * a + 401) ^ Int.toNat 3 % 2147483647 = s
        have s1 : 0 ≤ s := by rw [← hs]; exact Int.emod_nonneg _ (by decide)
        have s2 : s < 2147483647 := by rw [← hs]; exact Int.emod_lt_of_pos _ (by decide)
        have q3 : 0 ≤ s * (a + 60037) := Int.mul_nonneg s1 (by omega)
        have q4 : s * (a + 60037) ≤ 2147483647 * (a + 60037) := Int.mul_le_mul_of_nonneg_right (by omega) (by omega)
        rw [seq_n (set_n (h1 := m) (x := .int ((s * (a + 60037) + v % 1039) ^ Int.toNat 2 % 2147483629)) (by simp (disch := omega) only [sSeq_d, sSet_d, eBin_d, eK_d, eVar_d, bind_ok, List.getElem?_cons_zero, List.getElem?_cons_succ, List.set_cons_zero, List.set_cons_succ, sIf_d, tB_d, oGt_i, oLt_i, oGe_i, oLe_i, oNe_i, oEq_i, Bool.false_eq_true, if_false, if_true, sPut_d, sRet_d, sNext_d, oAddA_i, oSub_i, eApp_d, aCons_d, aNil_d, bAbs_i, bInt_b, sPar_d, eTup_d, eNeg_d, List.length_cons, List.length_nil, tAnd2_d, oMod_p, oMulA_l, oMulA_r, oPow_s]))]
        simp only [List.set_cons_zero, List.set_cons_succ]
        rw [ret_n (h1 := m) (x := .int ((s * (a + 60037) + v % 1039) ^ Int.toNat 2 % 2147483629 / 128 % n)) (by simp (disch := omega) only [sSeq_d, sSet_d, eBin_d, eK_d, eVar_d, bind_ok, List.getElem?_cons_zero, List.getElem?_cons_succ, List.set_cons_zero, List.set_cons_succ, sIf_d, tB_d, oGt_i, oLt_i, oGe_i, oLe_i, oNe_i, oEq_i, Bool.false_eq_true, if_false, if_true, sPut_d, sRet_d, sNext_d, oAddA_i, oSub_i, eApp_d, aCons_d, aNil_d, bAbs_i, bInt_b, sPar_d, eTup_d, eNeg_d, List.length_cons, List.length_nil, tAnd2_d, oMod_p, oFdiv_p, oMulA_l, oMulA_r])]
        exact ⟨_, a + 1, 0, [], by rw [m0], Int.emod_nonneg _ (by omega), Int.emod_lt_of_pos _ hn, by omega, by omega, by omega⟩
  obtain ⟨r, a', l', g, e, rest⟩ := main
  refine ⟨r, a', l', ?_, rest⟩
  unfold F__law_take
  rw [mkFn_ret (np := 2) rfl e, P.cut _ _ _ _ rfl]
end Mine
set_option Elab.async false
set_option linter.all false
set_option autoImplicit false
set_option maxRecDepth 100000
namespace Mine
open PySem PySem.Spec PyProof.Rows L2 EV
set_option maxHeartbeats 1000000
local macro_rules | `(tactic| simp! only [$xs,*]) => `(tactic| simp only [wBin_d, wB2_d, wB1_d, wVar_d, wK_d, wNil_d, wCons_d, wTup_d, wLst_d, wIf_d, wAnd2_d, wOr2_d, wOrT_d, wAndT_d, wNot1_d, wNeg_d, wChain_d, wB_d, wTru_d, wtNot_d, wtAnd_d, wtOr_d, wtTrue_d, woNone_d, woSome_d, wSl_d, wSlL_d, wRevA_d, wApp_d, wAppK_d, wIsi_d, wSeq_d, wR1_d, wR2_d, wEnum_d, wLC_d, wDict0_d, wgSet_d, wgNil_d, wgCons_d, wgSeq_t, wgSeq_l, wsNext_d, wsBrk_d, wsCont_d, wsSeq_d, wsIf_d, wsExpr_d, wsRet_d, wsSet_d, wsPar_d, wsPar3_d, wsAsg_d, wsAppend_d, wsExtend_d, wsReverse_d, wsFor_d, wsWhile_d, wFn_d, wFnN_d, wDraw_d, vSub_d, vLt_d, vLe_d, vGt_d, vGe_d, vMax2_d, vMin2_d, vMul_t, vMul_l, vAdd_d, vAdd_t, vAdd_l, vCat_d, vEq_i, vNe_i, vEq_s, vNe_s, vIx_t, vIx_l, tAt_0, tAt_1, tAt_2, vAbs_d, vLen_t, vLen_l, vTuple_l, vTuple_t, vList_l, vList_t, vInt_b, vInt_i, vNotB_d, vIsN_d, vNotN_d, vIx_sh0, vIx_sh1, vEq_sh, vNe_sh, EV.startT, List.map_cons, List.map_nil, List.length_cons, List.length_nil, List.replicate_succ, List.replicate_zero, List.nil_append, List.cons_append, List.append_nil, List.getElem?_cons_zero, List.getElem?_cons_succ, List.set_cons_zero, List.set_cons_succ, Nat.reduceAdd, Nat.reduceSub, Nat.zero_add, wipeT, mIntT, sel, List.filterMap_cons, List.filterMap_nil, Bool.false_eq_true, if_false, if_true, true_and, and_true, and_self, Bool.and_self, Bool.not_true, Bool.not_false, decide_true, decide_false, Option.getD_some, $xs,*])
local macro_rules | `(tactic| simp! only [$xs,*] $l:location) => `(tactic| simp only [wBin_d, wB2_d, wB1_d, wVar_d, wK_d, wNil_d, wCons_d, wTup_d, wLst_d, wIf_d, wAnd2_d, wOr2_d, wOrT_d, wAndT_d, wNot1_d, wNeg_d, wChain_d, wB_d, wTru_d, wtNot_d, wtAnd_d, wtOr_d, wtTrue_d, woNone_d, woSome_d, wSl_d, wSlL_d, wRevA_d, wApp_d, wAppK_d, wIsi_d, wSeq_d, wR1_d, wR2_d, wEnum_d, wLC_d, wDict0_d, wgSet_d, wgNil_d, wgCons_d, wgSeq_t, wgSeq_l, wsNext_d, wsBrk_d, wsCont_d, wsSeq_d, wsIf_d, wsExpr_d, wsRet_d, wsSet_d, wsPar_d, wsPar3_d, wsAsg_d, wsAppend_d, wsExtend_d, wsReverse_d, wsFor_d, wsWhile_d, wFn_d, wFnN_d, wDraw_d, vSub_d, vLt_d, vLe_d, vGt_d, vGe_d, vMax2_d, vMin2_d, vMul_t, vMul_l, vAdd_d, vAdd_t, vAdd_l, vCat_d, vEq_i, vNe_i, vEq_s, vNe_s, vIx_t, vIx_l, tAt_0, tAt_1, tAt_2, vAbs_d, vLen_t, vLen_l, vTuple_l, vTuple_t, vList_l, vList_t, vInt_b, vInt_i, vNotB_d, vIsN_d, vNotN_d, vIx_sh0, vIx_sh1, vEq_sh, vNe_sh, EV.startT, List.map_cons, List.map_nil, List.length_cons, List.length_nil, List.replicate_succ, List.replicate_zero, List.nil_append, List.cons_append, List.append_nil, List.getElem?_cons_zero, List.getElem?_cons_succ, List.set_cons_zero, List.set_cons_succ, Nat.reduceAdd, Nat.reduceSub, Nat.zero_add, wipeT, mIntT, sel, List.filterMap_cons, List.filterMap_nil, Bool.false_eq_true, if_false, if_true, true_and, and_true, and_self, Bool.and_self, Bool.not_true, Bool.not_false, decide_true, decide_false, Option.getD_some, $xs,*] $l:location)
local macro_rules | `(tactic| dsimp! only [$xs,*]) => `(tactic| simp only [wBin_d, wB2_d, wB1_d, wVar_d, wK_d, wNil_d, wCons_d, wTup_d, wLst_d, wIf_d, wAnd2_d, wOr2_d, wOrT_d, wAndT_d, wNot1_d, wNeg_d, wChain_d, wB_d, wTru_d, wtNot_d, wtAnd_d, wtOr_d, wtTrue_d, woNone_d, woSome_d, wSl_d, wSlL_d, wRevA_d, wApp_d, wAppK_d, wIsi_d, wSeq_d, wR1_d, wR2_d, wEnum_d, wLC_d, wDict0_d, wgSet_d, wgNil_d, wgCons_d, wgSeq_t, wgSeq_l, wsNext_d, wsBrk_d, wsCont_d, wsIf_d, wsExpr_d, wsRet_d, wsSet_d, wsPar_d, wsPar3_d, wsAsg_d, wsAppend_d, wsExtend_d, wsReverse_d, wsFor_d, wsWhile_d, wFn_d, wFnN_d, wDraw_d, vSub_d, vLt_d, vLe_d, vGt_d, vGe_d, vMax2_d, vMin2_d, vMul_t, vMul_l, vAdd_d, vAdd_t, vAdd_l, vCat_d, vEq_i, vNe_i, vEq_s, vNe_s, vIx_t, vIx_l, tAt_0, tAt_1, tAt_2, vAbs_d, vLen_t, vLen_l, vTuple_l, vTuple_t, vList_l, vList_t, vInt_b, vInt_i, vNotB_d, vIsN_d, vNotN_d, vIx_sh0, vIx_sh1, vEq_sh, vNe_sh, EV.startT, List.map_cons, List.map_nil, List.length_cons, List.length_nil, List.replicate_succ, List.replicate_zero, List.nil_append, List.cons_append, List.append_nil, List.getElem?_cons_zero, List.getElem?_cons_succ, List.set_cons_zero, List.set_cons_succ, Nat.reduceAdd, Nat.reduceSub, Nat.zero_add, wipeT, mIntT, sel, List.filterMap_cons, List.filterMap_nil, Bool.false_eq_true, if_false, if_true, true_and, and_true, and_self, Bool.and_self, Bool.not_true, Bool.not_false, decide_true, decide_false, Option.getD_some, $xs,*])
local macro_rules | `(tactic| dsimp! only [$xs,*] $l:location) => `(tactic| simp only [wBin_d, wB2_d, wB1_d, wVar_d, wK_d, wNil_d, wCons_d, wTup_d, wLst_d, wIf_d, wAnd2_d, wOr2_d, wOrT_d, wAndT_d, wNot1_d, wNeg_d, wChain_d, wB_d, wTru_d, wtNot_d, wtAnd_d, wtOr_d, wtTrue_d, woNone_d, woSome_d, wSl_d, wSlL_d, wRevA_d, wApp_d, wAppK_d, wIsi_d, wSeq_d, wR1_d, wR2_d, wEnum_d, wLC_d, wDict0_d, wgSet_d, wgNil_d, wgCons_d, wgSeq_t, wgSeq_l, wsNext_d, wsBrk_d, wsCont_d, wsIf_d, wsExpr_d, wsRet_d, wsSet_d, wsPar_d, wsPar3_d, wsAsg_d, wsAppend_d, wsExtend_d, wsReverse_d, wsFor_d, wsWhile_d, wFn_d, wFnN_d, wDraw_d, vSub_d, vLt_d, vLe_d, vGt_d, vGe_d, vMax2_d, vMin2_d, vMul_t, vMul_l, vAdd_d, vAdd_t, vAdd_l, vCat_d, vEq_i, vNe_i, vEq_s, vNe_s, vIx_t, vIx_l, tAt_0, tAt_1, tAt_2, vAbs_d, vLen_t, vLen_l, vTuple_l, vTuple_t, vList_l, vList_t, vInt_b, vInt_i, vNotB_d, vIsN_d, vNotN_d, vIx_sh0, vIx_sh1, vEq_sh, vNe_sh, EV.startT, List.map_cons, List.map_nil, List.length_cons, List.length_nil, List.replicate_succ, List.replicate_zero, List.nil_append, List.cons_append, List.append_nil, List.getElem?_cons_zero, List.getElem?_cons_succ, List.set_cons_zero, List.set_cons_succ, Nat.reduceAdd, Nat.reduceSub, Nat.zero_add, wipeT, mIntT, sel, List.filterMap_cons, List.filterMap_nil, Bool.false_eq_true, if_false, if_true, true_and, and_true, and_self, Bool.and_self, Bool.not_true, Bool.not_false, decide_true, decide_false, Option.getD_some, $xs,*] $l:location)
theorem sm_pair {a b : Int} (a0 : -1 ≤ a) (a1 : a ≤ 16) (b0 : -1 ≤ b) (b1 : b ≤ 16) : Sm 1 14 (T.tup [.int a, .int b]) := (SmL.cons (Sm.nat a0 a1) (SmL.one (Sm.nat b0 b1))).tup.mono (by decide) (by decide)
theorem sm_ten60 : Sm 0 200 (.int (10 ^ Int.toNat 60)) := Sm.int (by decide) (by decide) (by decide)
structure LineOk (y : T) : Prop where
  ex : ∃ xs : List T, y = .tup xs ∧ 1 ≤ xs.length ∧ xs.length ≤ 4 ∧ SmL 2 180 xs
theorem LineOk.of {xs : List T} (h : SmL 2 180 xs) (h1 : 1 ≤ xs.length) (h2 : xs.length ≤ 4) : LineOk (.tup xs) := ⟨xs, rfl, h1, h2, h⟩
theorem LineOk.sm {y : T} (h : LineOk y) : Sm 3 180 y := by
  obtain ⟨xs, rfl, _, _, s⟩ := h.ex
  exact s.tup
theorem _law_line_ok {c : Nat} (hc : c < 800000) {Q : QT} (h : ∀ y c', LineOk y → c ≤ c' → c' ≤ c + 30 → Q y c') : W__law_line [.pen] c Q := by
  have z0 : 0 ≤ sizeLine := Nat.zero_le _
  have n1 : 1 ≤ sizeLine := fitL (by decide)
  have n2 : 2 ≤ sizeLine := fitL (by decide)
  have n3 : 3 ≤ sizeLine := fitL (by decide)
  have n4 : 4 ≤ sizeLine := fitL (by decide)
  have n5 : 5 ≤ sizeLine := fitL (by decide)
  have n6 : 6 ≤ sizeLine := fitL (by decide)
  have n8 : 8 ≤ sizeLine := fitL (by decide)
  have n12 : 12 ≤ sizeLine := fitL (by decide)
  have n16 : 16 ≤ sizeLine := fitL (by decide)
  unfold W__law_line WB__law_line
  rw [wFn_d]
  refine ⟨rfl, ?_⟩
  simp only [EV.startT, List.map_cons, List.map_nil, List.length_cons, List.length_nil, List.replicate_succ, List.replicate_zero, List.cons_append, List.nil_append, Nat.reduceAdd, Nat.reduceSub, Nat.zero_add]
  refine wsSeq_p (fun τ1 c1 => c1 = c + 2 ∧ ∃ a b : Int, 0 ≤ a ∧ a ≤ 9 ∧ 0 ≤ b ∧ b ≤ 9 ∧ τ1 = [some .pen, none, none, none, some (.int a), some (.int b), none]) (fun K k _ => ?_) ?_
  · dsimp! only [z0, n1, n2, n3, n4, n5, n6, n8, n12, n16]
    refine ⟨⟨by decide, by decide, by omega⟩, fun r r0 r1 => ⟨⟨by decide, by decide, by omega⟩, fun q q0 q1 => ?_⟩⟩
    refine tAt_int (fun i => 0 ≤ i ∧ i ≤ 9) (fun x hx => ?_) q0 q1 fun i hi => k _ _ ⟨rfl, r, i, r0, by omega, hi.1, hi.2, rfl⟩
    simp only [List.mem_cons, List.not_mem_nil, or_false] at hx
    rcases hx with rfl | rfl | rfl <;> exact ⟨_, rfl, by decide, by decide⟩
  intro τ1 c1 ⟨hc1, a, b, a0, a1, b0, b1, e⟩
  subst hc1 e
  refine wsSeq_p (fun τ1 c1 => c1 = c + 3 ∧ ∃ p : T, Sm 1 100 p ∧ τ1 = [some .pen, some p, none, none, some (.int a), some (.int b), none]) (fun K k _ => ?_) ?_
  · dsimp! only [z0, n1, n2, n3, n4, n5, n6, n8, n12, n16, vPow_s (show (0 : Int) ≤ 60 by decide) (show (60 : Int) ≤ 1000000 by decide) (show (10 : Int).natAbs < 18446744073709551616 by decide), vPow_s (show (0 : Int) ≤ 12 by decide) (show (12 : Int) ≤ 1000000 by decide) (show (10 : Int).natAbs < 18446744073709551616 by decide)]
    refine ⟨⟨by decide, by decide, by omega⟩, fun q q0 q1 => ?_⟩
    refine tAt_pick (Sm 1 100) (fun x hx => ?_) q0 q1 fun x hx => k _ _ ⟨rfl, x, hx, rfl⟩
    simp only [List.mem_cons, List.not_mem_nil, or_false] at hx
    have P : ∀ {a b : Int}, a.natAbs < 2 ^ 42 → b.natAbs < 2 ^ 42 → Sm 1 100 (T.tup [.int a, .int b]) := fun h1 h2 => (SmL.cons (Sm.int h1 (by decide) (by decide)) (SmL.one (Sm.int h2 (by decide) (by decide)))).tup.mono (by decide) (by decide)
    rcases hx with rfl | rfl | rfl | rfl | rfl <;> exact P (by decide) (by decide)
  intro τ1 c1 ⟨hc1, p, hp, e⟩
  subst hc1 e
  refine wsSeq_p (fun τ1 c1 => c + 4 ≤ c1 ∧ c1 ≤ c + 22 ∧ ∃ ps : T, Sm 2 135 ps ∧ ∃ v, τ1 = [some .pen, some p, some ps, none, some (.int a), some (.int b), v]) (fun K k _ => ?_) ?_
  · dsimp! only [z0, n1, n2, n3, n4, n5, n6, n8, n12, n16]
    refine ⟨⟨by decide, by decide, by omega⟩, fun q q0 q1 => ?_⟩
    refine tAt_int (fun i => 0 ≤ i ∧ i ≤ 9) (fun x hx => ?_) q0 q1 fun i hi => ?_
    · simp only [List.mem_cons, List.not_mem_nil, or_false] at hx
      rcases hx with rfl | rfl | rfl <;> exact ⟨_, rfl, by decide, by decide⟩
    have hl : (EV.rangeT 0 (Int.toNat i)).length ≤ 9 := by rw [rangeT_len]; omega
    dsimp! only []
    refine ⟨⟨by omega, by omega⟩, ?_⟩
    refine wlc_gen id (Sm 1 14) 2 (by omega) (fun x hx c1 K1 K2 g1 g2 g3 => ?_) fun zs c1 l1 l2 l3 l4 => ?_
    · dsimp! only [z0, n1, n2, n3, n4, n5, n6, n8, n12, n16]
      refine ⟨⟨by decide, by decide, by omega⟩, fun r r0 r1 => ⟨⟨by decide, by decide, by omega⟩, fun s s0 s1 => ?_⟩⟩
      exact g3 (.tup [.int r, .int s]) _ (sm_pair (by omega) (by omega) (by omega) (by omega)) (by omega) (by omega)
    · dsimp! only [List.map_id]
      refine k _ _ ⟨by omega, by omega, _, ?_, _, rfl⟩
      exact (SmL.of l2).tup.mono (by decide) (by rw [l1]; omega)
  intro τ1 c1 ⟨h1, h2, ps, hps, v, e⟩
  subst e
  refine wsSeq_p (fun τ1 c2 => c2 = c1 ∧ ∃ L : List T, L.length = 5 ∧ (∀ x ∈ L, LineOk x) ∧ ∃ v1 v2 v4 v5 v6, τ1 = [some .pen, v1, v2, some (.lst L), v4, v5, v6]) (fun K k _ => ?_) ?_
  · dsimp! only [z0, n1, n2, n3, n4, n5, n6, n8, n12, n16]
    refine k _ _ ⟨rfl, _, rfl, ?_, _, _, _, _, _, rfl⟩
    intro y hy
    have st : ∀ {x : Str}, x.cps.toList.all (fun c => decide (c < 1114112)) = true → x.cps.size ≤ 10 → Sm 2 10 (.str x) := fun h1 h2 => (Sm.str h1 h2).mono (by decide) (Nat.le_refl _)
    have ia : Sm 2 6 (.int a) := (Sm.nat (by omega) (by omega)).mono (by decide) (Nat.le_refl _)
    have ib : Sm 2 6 (.int b) := (Sm.nat (by omega) (by omega)).mono (by decide) (Nat.le_refl _)
    simp only [List.mem_cons, List.not_mem_nil, or_false] at hy
    rcases hy with rfl | rfl | rfl | rfl | rfl
    · exact .of ((SmL.cons (st (by decide) (by decide)) (SmL.cons ia (SmL.cons ib (SmL.one hps)))).mono (by decide) (by decide)) (by simp) (by simp)
    · exact .of ((SmL.cons (st (by decide) (by decide)) (SmL.cons ia (SmL.one ib))).mono (by decide) (by decide)) (by simp) (by simp)
    · exact .of ((SmL.cons (st (by decide) (by decide)) (SmL.cons ia (SmL.one (hp.mono (show 1 ≤ 2 by decide) (Nat.le_refl _))))).mono (by decide) (by decide)) (by simp) (by simp)
    · exact .of ((SmL.one (st (by decide) (by decide))).mono (by decide) (by decide)) (by simp) (by simp)
    · exact .of ((SmL.cons (st (by decide) (by decide)) (SmL.cons ia (SmL.one ib))).mono (by decide) (by decide)) (by simp) (by simp)
  intro τ1 c2 ⟨hc2, L, hL, hLs, v1, v2, v4, v5, v6, e⟩
  subst hc2 e
  dsimp! only [z0, n1, n2, n3, n4, n5, n6, n8, n12, n16, hL]
  refine ⟨⟨by decide, by decide, by omega⟩, fun q q0 q1 => ?_⟩
  refine tAt_pick LineOk (fun x hx => ?_) q0 (by simp [hL]; omega) fun x hx => h x _ hx (by omega) (by omega)
  rcases List.mem_append.mp hx with hx | hx
  · exact hLs x hx
  simp only [List.mem_cons, List.not_mem_nil, or_false] at hx
  subst hx
  exact .of ((SmL.one ((Sm.str (w := 10) (by decide) (by decide)).mono (show 0 ≤ 2 by decide) (Nat.le_refl _))).mono (by decide) (by decide)) (by simp) (by simp)
theorem _law_odd_ok {x : T} (hx : Sm 2 180 x) {c : Nat} (hc : c < 850000) {Q : QT} (h : ∀ y, Sm 3 210 y → Q y (c + 1)) : W__law_odd [.pen, x] c Q := by
  have z0 : 0 ≤ sizeLine := Nat.zero_le _
  have n1 : 1 ≤ sizeLine := fitL (by decide)
  have n2 : 2 ≤ sizeLine := fitL (by decide)
  have n3 : 3 ≤ sizeLine := fitL (by decide)
  have n4 : 4 ≤ sizeLine := fitL (by decide)
  have n5 : 5 ≤ sizeLine := fitL (by decide)
  have n6 : 6 ≤ sizeLine := fitL (by decide)
  have n8 : 8 ≤ sizeLine := fitL (by decide)
  have n12 : 12 ≤ sizeLine := fitL (by decide)
  have n16 : 16 ≤ sizeLine := fitL (by decide)
  unfold W__law_odd WB__law_odd
  rw [wFn_d]
  refine ⟨rfl, ?_⟩
  simp only [EV.startT, List.map_cons, List.map_nil, List.length_cons, List.length_nil, List.replicate_succ, List.replicate_zero, List.cons_append, List.nil_append, Nat.reduceAdd, Nat.reduceSub, Nat.zero_add]
  refine wsSeq_p (fun τ1 c1 => c1 = c ∧ ∃ L : List T, L.length = 16 ∧ (∀ y ∈ L, Sm 3 210 y) ∧ τ1 = [some .pen, some x, some (.lst L)]) (fun K k _ => ?_) ?_
  · dsimp! only [z0, n1, n2, n3, n4, n5, n6, n8, n12, n16, vPow_s (show (0 : Int) ≤ 60 by decide) (show (60 : Int) ≤ 1000000 by decide) (show (10 : Int).natAbs < 18446744073709551616 by decide), vPow_s (show (0 : Int) ≤ 12 by decide) (show (12 : Int) ≤ 1000000 by decide) (show (10 : Int).natAbs < 18446744073709551616 by decide)]
    refine k _ _ ⟨rfl, _, rfl, ?_, rfl⟩
    intro y hy
    simp only [List.mem_cons, List.not_mem_nil, or_false] at hy
    rcases hy with rfl | rfl | rfl | rfl | rfl | rfl | rfl | rfl | rfl | rfl | rfl | rfl | rfl | rfl | rfl | rfl
    · exact Sm.non.mono (by decide) (by decide)
    · exact (Sm.bl _).mono (by decide) (by decide)
    · exact (Sm.bl _).mono (by decide) (by decide)
    · exact (Sm.nat (by decide) (by decide)).mono (by decide) (by decide)
    · exact (Sm.nat (by decide) (by decide)).mono (by decide) (by decide)
    · exact (Sm.nat (by decide) (by decide)).mono (by decide) (by decide)
    · exact (Sm.nat (by decide) (by decide)).mono (by decide) (by decide)
    · exact sm_ten60.mono (by decide) (by decide)
    · exact (Sm.str (w := 10) (by decide) (by decide)).mono (by decide) (by decide)
    · exact (Sm.str (w := 10) (by decide) (by decide)).mono (by decide) (by decide)
    · exact (Sm.str (w := 10) (by decide) (by decide)).mono (by decide) (by decide)
    · exact (Sm.str (w := 10) (by decide) (by decide)).mono (by decide) (by decide)
    · exact (Sm.str (w := 10) (by decide) (by decide)).mono (by decide) (by decide)
    · exact (Sm.str (w := 10) (by decide) (by decide)).mono (by decide) (by decide)
    · exact (Sm.str (w := 10) (by decide) (by decide)).mono (by decide) (by decide)
    · exact (Sm.str (w := 10) (by decide) (by decide)).mono (by decide) (by decide)
  intro τ1 c1 ⟨hc1, L, hL, hLs, e⟩
  subst hc1 e
  refine wsSeq_p (fun τ1 c2 => c2 = c1 ∧ ∃ L : List T, L.length = 28 ∧ (∀ y ∈ L, Sm 3 210 y) ∧ τ1 = [some .pen, some x, some (.lst L)]) (fun K k _ => ?_) ?_
  · dsimp! only [z0, n1, n2, n3, n4, n5, n6, n8, n12, n16, hL]
    refine ⟨fitL (by decide), k _ _ ⟨rfl, _, by simp [hL], ?_, rfl⟩⟩
    intro y hy
    rcases List.mem_append.mp hy with hy | hy
    · exact hLs y hy
    simp only [List.mem_cons, List.not_mem_nil, or_false] at hy
    rcases hy with rfl | rfl | rfl | rfl | rfl | rfl | rfl | rfl | rfl | rfl | rfl | rfl
    · exact (SmL.nil (m := 0)).tup.mono (by decide) (by decide)
    · exact (SmL.nil (m := 0)).lst.mono (by decide) (by decide)
    · exact Sm.dct0.mono (by decide) (by decide)
    · exact (sm_pair (by decide) (by decide) (by decide) (by decide)).mono (by decide) (by decide)
    · exact (sm_pair (by decide) (by decide) (by decide) (by decide)).mono (by decide) (by decide)
    · exact (sm_pair (by decide) (by decide) (by decide) (by decide)).mono (by decide) (by decide)
    · exact (sm_pair (by decide) (by decide) (by decide) (by decide)).mono (by decide) (by decide)
    · exact (SmL.cons (Sm.nat (by decide) (by decide)) (SmL.one (Sm.int (k := 6) (by decide) (by decide) (by decide)))).tup.mono (by decide) (by decide)
    · exact (SmL.cons (Sm.bl true) (SmL.one (Sm.nat (by decide) (by decide)))).tup.mono (by decide) (by decide)
    · exact (SmL.one (sm_pair (by decide) (by decide) (by decide) (by decide))).tup.mono (by decide) (by decide)
    · exact (SmL.one (SmL.cons (Sm.nat (by decide) (by decide)) (SmL.cons (Sm.nat (by decide) (by decide)) (SmL.one (Sm.nat (by decide) (by decide))))).tup).tup.mono (by decide) (by decide)
    · exact (SmL.one hx).lst.mono (by decide) (by decide)
  intro τ1 c2 ⟨hc2, L, hL, hLs, e⟩
  subst hc2 e
  refine wsSeq_p (fun τ1 c3 => c3 = c2 ∧ ∃ L : List T, L.length = 36 ∧ (∀ y ∈ L, Sm 3 210 y) ∧ τ1 = [some .pen, some x, some (.lst L)]) (fun K k _ => ?_) ?_
  · dsimp! only [z0, n1, n2, n3, n4, n5, n6, n8, n12, n16, hL]
    refine ⟨⟨by simp, by decide, by decide, fitL (by decide)⟩, ⟨by simp, by decide, by decide, fitL (by decide)⟩, fitL (by decide), k _ _ ⟨rfl, _, by simp [hL], ?_, rfl⟩⟩
    intro y hy
    rcases List.mem_append.mp hy with hy | hy
    · exact hLs y hy
    simp only [List.mem_cons, List.not_mem_nil, or_false] at hy
    rcases hy with rfl | rfl | rfl | rfl | rfl | rfl | rfl | rfl
    · exact (SmL.one hx).tup.mono (by decide) (by decide)
    · exact ((SmL.one (sm_pair (by decide) (by decide) (by decide) (by decide))).rep (Int.toNat 9)).tup.mono (by decide) (by decide)
    · exact ((SmL.one (sm_pair (by decide) (by decide) (by decide) (by decide))).rep (Int.toNat 10)).tup.mono (by decide) (by decide)
    · exact (SmL.one (sm_pair (by decide) (by decide) (by decide) (by decide))).tup.mono (by decide) (by decide)
    · exact (SmL.one (SmL.cons (Sm.nat (by decide) (by decide)) (SmL.one (Sm.bl true))).tup).tup.mono (by decide) (by decide)
    · exact (SmL.one (sm_pair (by decide) (by decide) (by decide) (by decide))).lst.mono (by decide) (by decide)
    · exact (SmL.one (SmL.cons (Sm.nat (by decide) (by decide)) (SmL.one (Sm.nat (by decide) (by decide)))).lst).tup.mono (by decide) (by decide)
    · exact (SmL.cons (Sm.nat (by decide) (by decide)) (SmL.cons (Sm.nat (by decide) (by decide)) (SmL.one (Sm.nat (by decide) (by decide))))).tup.mono (by decide) (by decide)
  intro τ1 c3 ⟨hc3, L, hL, hLs, e⟩
  subst hc3 e
  dsimp! only []
  refine ⟨⟨by decide, by decide, by omega⟩, fun q q0 q1 => ?_⟩
  exact tAt_pick (Sm 3 210) hLs q0 (by rw [hL]; exact q1) fun x hx => h x hx
theorem SmL.sub {m w : Nat} {xs ys : List T} (h : ∀ x ∈ xs, Sm m w x) (hy : ∀ y ∈ ys, y ∈ xs) : SmL m (ys.length * (w + 1)) ys := SmL.of fun y q => h y (hy y q)
theorem cut_mem {xs : List T} {a b : Option Int} : ∀ y ∈ cutT xs a b, y ∈ xs := fun y h => List.mem_of_mem_drop (List.mem_of_mem_take h)
theorem rep_mem {xs : List T} {n : Nat} : ∀ y ∈ (List.replicate n xs).flatten, y ∈ xs := fun y h => by
  obtain ⟨l, hl, hy⟩ := List.mem_flatten.mp h
  rw [List.eq_of_mem_replicate hl] at hy
  exact hy
theorem cut_top {xs : List T} {n : Nat} : (cutT xs none (some (n : Int))).length ≤ n := by
  rw [cutT_pre]
  simp only [List.length_take]
  omega
theorem _law_bent_ok {ls : List T} (hls : ∀ x ∈ ls, LineOk x) (hl : ls.length ≤ 13) {c : Nat} (hc : c < 800000) {Q : QT} (h : ∀ y c', Sm 6 5400 y → c ≤ c' → c' ≤ c + 5 → Q y c') : W__law_bent [.pen, .tup ls] c Q := by
  have z0 : 0 ≤ sizeLine := Nat.zero_le _
  have n1 : 1 ≤ sizeLine := fitL (by decide)
  have n2 : 2 ≤ sizeLine := fitL (by decide)
  have n3 : 3 ≤ sizeLine := fitL (by decide)
  have n4 : 4 ≤ sizeLine := fitL (by decide)
  have n5 : 5 ≤ sizeLine := fitL (by decide)
  have n6 : 6 ≤ sizeLine := fitL (by decide)
  have n8 : 8 ≤ sizeLine := fitL (by decide)
  have n12 : 12 ≤ sizeLine := fitL (by decide)
  have n16 : 16 ≤ sizeLine := fitL (by decide)
  have S : SmL 3 2353 ls := (SmL.of fun x hx => (hls x hx).sm).mono (by decide) (by
    have := Nat.mul_le_mul_right 181 hl
    omega)
  have cl : ∀ {a b : Option Int}, (cutT ls a b).length ≤ 13 := fun {a b} => Nat.le_trans cutT_len hl
  unfold W__law_bent WB__law_bent
  rw [wFn_d]
  refine ⟨rfl, ?_⟩
  simp only [EV.startT, List.map_cons, List.map_nil, List.length_cons, List.length_nil, List.replicate_succ, List.replicate_zero, List.cons_append, List.nil_append, Nat.reduceAdd, Nat.reduceSub, Nat.zero_add]
  refine wsSeq_p (fun τ1 c1 => c1 = c + 1 ∧ ∃ r : Int, 0 ≤ r ∧ τ1 = [some .pen, some (.tup ls), some (.int r), none, none, none, none, none]) (fun K k _ => ?_) ?_
  · dsimp! only []
    exact ⟨⟨by decide, by decide, by omega⟩, fun q q0 q1 => k _ _ ⟨rfl, q, q0, rfl⟩⟩
  intro τ1 c1 ⟨hc1, r, r0, e⟩
  subst hc1 e
  refine wsSeq_p (fun τ1 c1 => c1 = c + 1 ∧ ls ≠ [] ∧ τ1 = [some .pen, some (.tup ls), some (.int r), none, none, none, none, none]) (fun K k kr => ?_) ?_
  · have other : wsSeq (wsSet 6 (wLst (wCons (wK .non) (wCons (wK (.bl true)) (wCons (wK (.int 0)) (wCons (wK (.str "")) (wCons (wK (.str "lot")) (wCons (wTup wNil) (wCons (wLst wNil) (wCons wDict0 (wCons (wTup (wCons (wK (.str "lot")) wNil)) (wCons (wTup (wCons (wTup (wCons (wK (.str "lot")) wNil)) (wCons (wK .non) wNil))) (wCons (wLst (wCons (wTup (wCons (wK (.str "lot")) wNil)) wNil)) (wCons (wTup (wCons (wTup wNil) wNil)) wNil)))))))))))))) (wsRet (wBin vIx (wVar 6) (wApp wDraw (wCons (wVar 0) (wCons (wK (.int 12)) wNil))))) [some .pen, some (.tup ls), some (.int r), none, none, none, none, none] (c + 1) K := by
      simp! only [z0, n1, n2, n3, n4, n5, n6, n8, n12, n16]
      refine ⟨⟨by decide, by decide, by omega⟩, fun q q0 q1 => ?_⟩
      refine tAt_pick (Sm 6 5400) (fun x hx => ?_) q0 q1 fun x hx => kr _ _ (h x _ hx (by omega) (by omega))
      simp only [List.mem_cons, List.not_mem_nil, or_false] at hx
      rcases hx with rfl | rfl | rfl | rfl | rfl | rfl | rfl | rfl | rfl | rfl | rfl | rfl
      · exact Sm.non.mono (by decide) (by decide)
      · exact (Sm.bl _).mono (by decide) (by decide)
      · exact (Sm.nat (by decide) (by decide)).mono (by decide) (by decide)
      · exact (Sm.str (w := 10) (by decide) (by decide)).mono (by decide) (by decide)
      · exact (Sm.str (w := 10) (by decide) (by decide)).mono (by decide) (by decide)
      · exact (SmL.nil (m := 0)).tup.mono (by decide) (by decide)
      · exact (SmL.nil (m := 0)).lst.mono (by decide) (by decide)
      · exact Sm.dct0.mono (by decide) (by decide)
      · exact (SmL.one (Sm.str (w := 10) (by decide) (by decide))).tup.mono (by decide) (by decide)
      · exact (SmL.cons (SmL.one (Sm.str (w := 10) (by decide) (by decide))).tup (SmL.one (Sm.non.mono (show 0 ≤ 1 by decide) (Nat.le_refl _)))).tup.mono (by decide) (by decide)
      · exact (SmL.one (SmL.one (Sm.str (w := 10) (by decide) (by decide))).tup).lst.mono (by decide) (by decide)
      · exact (SmL.one (SmL.nil (m := 0)).tup).tup.mono (by decide) (by decide)
    rw [wsIf_d]
    simp only [wtOr_d, wB_d, wBin_d, wVar_d, wTup_d, wNil_d, wK_d, List.getElem?_cons_zero, List.getElem?_cons_succ, List.length_nil, z0, true_and, vEqU_t, vEq_i, wsNext_d]
    cases ls with
    | nil => simp only [List.isEmpty_nil, if_true]; exact other
    | cons l ls =>
      simp only [List.isEmpty_cons, Bool.false_eq_true, if_false]
      by_cases q : r = 0
      · subst q
        simp only [BEq.rfl, if_true]
        exact other
      · have : (r == 0) = false := by rw [beq_eq_false_iff_ne]; exact q
        simp only [this, Bool.false_eq_true, if_false]
        exact k _ _ ⟨rfl, by simp, rfl⟩
  intro τ1 c1 ⟨hc1, ne, e⟩
  subst hc1 e
  have l0 : 0 < ls.length := List.length_pos_iff.mpr ne
  refine wsSeq_p (fun τ1 c1 => c1 = c + 2 ∧ ∃ at' : Nat, at' < ls.length ∧ τ1 = [some .pen, some (.tup ls), some (.int r), some (.int at'), none, none, none, none]) (fun K k kr => ?_) ?_
  · dsimp! only []
    refine ⟨⟨by omega, by omega, by omega⟩, fun q q0 q1 => k _ _ ⟨rfl, q.toNat, by omega, ?_⟩⟩
    rw [Int.toNat_of_nonneg q0]
  intro τ1 c1 ⟨hc1, at', hat, e⟩
  subst hc1 e
  refine wsSeq_p (fun τ1 c1 => c1 = c + 2 ∧ ∃ xs : List T, 1 ≤ xs.length ∧ xs.length ≤ 4 ∧ SmL 2 180 xs ∧ τ1 = [some .pen, some (.tup ls), some (.int r), some (.int at'), some (.tup xs), none, none, none]) (fun K k kr => ?_) ?_
  · dsimp! only []
    refine tAt_pick LineOk hls (by omega) (by omega) fun x hx => ?_
    obtain ⟨xs, rfl, x1, x2, x3⟩ := hx.ex
    exact k _ _ ⟨rfl, xs, x1, x2, x3, rfl⟩
  intro τ1 c1 ⟨hc1, xs, x1, x2, X, e⟩
  subst hc1 e
  have cx : ∀ {a b : Option Int}, (cutT xs a b).length ≤ 4 := fun {a b} => Nat.le_trans cutT_len x2
  have into : ∀ {y : T} {a b : Option Int}, Sm 4 590 y → Sm 6 5400 (.tup (cutT ls none a ++ [y] ++ cutT ls b none)) := fun {y a b} hy =>
    (((S.cut none a).dpt (show 3 ≤ 4 by decide)).app (SmL.one hy) |>.app ((S.cut b none).dpt (show 3 ≤ 4 by decide))).tup.mono (by decide) (by decide)
  refine wsSeq_p (fun τ1 c1 => c1 = c + 3 ∧ ∃ sp : Nat, sp < xs.length ∧ τ1 = [some .pen, some (.tup ls), some (.int r), some (.int at'), some (.tup xs), some (.int sp), none, none]) (fun K k kr => ?_) ?_
  · dsimp! only []
    refine ⟨⟨by omega, by omega, by omega⟩, fun q q0 q1 => k _ _ ⟨rfl, q.toNat, by omega, ?_⟩⟩
    rw [Int.toNat_of_nonneg q0]
  intro τ1 c1 ⟨hc1, sp, hsp, e⟩
  subst hc1 e
  have lf : ∀ {a b : Option Int} {n : Nat}, n ≤ 50 → (cutT ls none a).length + n ≤ sizeLine := fun {a b n} hn => fitL (by have := cl (a := none) (b := a); omega)
  refine wsSeq_p (fun τ1 c1 => c1 = c + 3 ∧ τ1 = [some .pen, some (.tup ls), some (.int r), some (.int at'), some (.tup xs), some (.int sp), none, none]) (fun K k kr => ?_) ?_
  · simp! only [z0, n1, n2, n3, n4, n5, n6, n8, n12, n16]
    by_cases q : r < 4
    · simp only [decide_eq_true q, if_true]
      have x4 := cx (a := none) (b := some sp)
      have x5 := cx (a := some ((sp : Int) + 1)) (b := none)
      have l4 := cl (a := none) (b := some at')
      have l5 := cl (a := some ((at' : Int) + 1)) (b := none)
      refine tAt_pick (Sm 2 180) X.mem (by omega) (by omega) fun x hx => ?_
      refine _law_odd_ok hx (by omega) fun y hy => ?_
      try simp! only [z0, n1, n2, n3, n4, n5, n6, n8, n12, n16]
      refine ⟨fitL (by simp; omega), fitL (by simp; omega), fitL (by simp; omega), fitL (by simp; omega), kr _ _ (h _ _ (into ?_) (by omega) (by omega))⟩
      exact ((((X.cut none (some sp)).dpt (show 2 ≤ 3 by decide)).app (SmL.one hy)).app ((X.cut (some ((sp : Int) + 1)) none).dpt (show 2 ≤ 3 by decide))).tup.mono (by decide) (by decide)
    · simp only [decide_eq_false q, Bool.false_eq_true, if_false]
      exact k _ _ ⟨rfl, rfl⟩
  intro τ1 c1 ⟨hc1, e⟩
  subst hc1 e
  refine wsSeq_p (fun τ1 c1 => c1 = c + 3 ∧ τ1 = [some .pen, some (.tup ls), some (.int r), some (.int at'), some (.tup xs), some (.int sp), none, none]) (fun K k kr => ?_) ?_
  · by_cases q : r = 4
    · subst q
      have l4 := cl (a := none) (b := some at')
      have l5 := cl (a := some ((at' : Int) + 1)) (b := none)
      rw [wsIf_d]
      simp only [wB_d, wBin_d, wVar_d, wK_d, vEq_i, List.getElem?_cons_zero, List.getElem?_cons_succ, BEq.rfl, if_true]
      refine wsSeq_p (fun τ1 c1 => c1 = c + 3 ∧ ∃ L : List T, L.length = 8 ∧ (∀ y ∈ L, Sm 4 590 y) ∧ τ1 = [some .pen, some (.tup ls), some (.int 4), some (.int at'), some (.tup xs), some (.int sp), some (.lst L), none]) (fun K k kr => ?_) ?_
      · dsimp! only [z0, n1, n2, n3, n4, n5, n6, n8, n12, n16]
        refine ⟨fitL (by omega), ?_⟩
        refine tAt_pick (Sm 2 180) X.mem (by decide) (by omega) fun x hx => ?_
        try dsimp! only [z0, n1, n2, n3, n4, n5, n6, n8, n12, n16]
        refine ⟨fitL (by omega), k _ _ ⟨rfl, _, rfl, ?_, rfl⟩⟩
        intro y hy
        simp only [List.mem_cons, List.not_mem_nil, or_false] at hy
        rcases hy with rfl | rfl | rfl | rfl | rfl | rfl | rfl | rfl
        · exact (X.cut _ _).tup.mono (by decide) (by decide)
        · exact (X.app (SmL.one ((Sm.nat (by decide) (by decide)).mono (show 0 ≤ 2 by decide) (Nat.le_refl _)))).tup.mono (by decide) (by decide)
        · exact X.lst.mono (by decide) (by decide)
        · exact hx.mono (by decide) (by decide)
        · exact Sm.non.mono (by decide) (by decide)
        · exact (SmL.one X.tup).tup.mono (by decide) (by decide)
        · exact (Sm.rev X).tup.mono (by decide) (by decide)
        · exact (X.app (SmL.one ((Sm.str (w := 10) (by decide) (by decide)).mono (show 0 ≤ 2 by decide) (Nat.le_refl _)))).tup.mono (by decide) (by decide)
      intro τ1 c1 ⟨hc1, L, hL, hLs, e⟩
      subst hc1 e
      dsimp! only [z0, n1, n2, n3, n4, n5, n6, n8, n12, n16]
      refine ⟨⟨by decide, by decide, by omega⟩, fun s s0 s1 => ?_⟩
      refine tAt_pick (Sm 4 590) hLs s0 (by rw [hL]; exact s1) fun x hx => ?_
      try dsimp! only [z0, n1, n2, n3, n4, n5, n6, n8, n12, n16]
      exact ⟨fitL (by simp; omega), fitL (by simp; omega), kr _ _ (h _ _ (into hx) (by omega) (by omega))⟩
    · have q2 : (r == 4) = false := by rw [beq_eq_false_iff_ne]; exact q
      rw [wsIf_d]
      simp only [wB_d, wBin_d, wVar_d, wK_d, vEq_i, List.getElem?_cons_zero, List.getElem?_cons_succ, q2, Bool.false_eq_true, if_false, wsNext_d]
      exact k _ _ ⟨rfl, rfl⟩
  intro τ1 c1 ⟨hc1, e⟩
  subst hc1 e
  have r13 : ∀ n : Nat, n ≤ 13 → (List.replicate n ls).flatten.length ≤ 200 := fun n hn => by
    rw [List.length_flatten, List.map_replicate, List.sum_replicate_nat]
    have := Nat.mul_le_mul hn hl
    omega
  refine wsSeq_p (fun τ1 c1 => c1 = c + 3 ∧ τ1 = [some .pen, some (.tup ls), some (.int r), some (.int at'), some (.tup xs), some (.int sp), none, none]) (fun K k kr => ?_) ?_
  · by_cases q : r = 5
    · subst q
      have l4 := cl (a := none) (b := some at')
      have l5 := cl (a := some ((at' : Int) + 1)) (b := none)
      have l6 := cl (a := none) (b := some ((at' : Int) + 1))
      have l7 := cl (a := some (at' : Int)) (b := none)
      rw [wsIf_d]
      simp only [wB_d, wBin_d, wVar_d, wK_d, vEq_i, List.getElem?_cons_zero, List.getElem?_cons_succ, BEq.rfl, if_true]
      simp! only [z0, n1, n2, n3, n4, n5, n6, n8, n12, n16]
      refine ⟨⟨ne, by decide, by decide, fitL (by rw [show Int.toNat 2 = 2 from rfl]; omega)⟩, fitL (by omega), fitL (by omega), ⟨by decide, by decide, by omega⟩, fun s s0 s1 => ?_⟩
      refine tAt_pick (Sm 6 5400) (fun x hx => ?_) s0 s1 fun x hx => kr _ _ (h x _ hx (by omega) (by omega))
      simp only [List.mem_cons, List.not_mem_nil, or_false] at hx
      rcases hx with rfl | rfl | rfl | rfl
      · exact (S.rep 2).tup.mono (by decide) (by decide)
      · exact ((S.cut _ _).app (S.cut _ _)).tup.mono (by decide) (by decide)
      · exact ((S.cut _ _).app (S.cut _ _)).tup.mono (by decide) (by decide)
      · exact S.lst.mono (by decide) (by decide)
    · have q2 : (r == 5) = false := by rw [beq_eq_false_iff_ne]; exact q
      rw [wsIf_d]
      simp only [wB_d, wBin_d, wVar_d, wK_d, vEq_i, List.getElem?_cons_zero, List.getElem?_cons_succ, q2, Bool.false_eq_true, if_false, wsNext_d]
      exact k _ _ ⟨rfl, rfl⟩
  intro τ1 c1 ⟨hc1, e⟩
  subst hc1 e
  simp! only [z0, n1, n2, n3, n4, n5, n6, n8, n12, n16]
  have r1 : ls.length * Int.toNat 13 ≤ sizeLine := fitL (by rw [show Int.toNat 13 = 13 from rfl]; omega)
  refine ⟨⟨ne, by decide, by decide, r1⟩, ⟨ne, by decide, by decide, r1⟩, ⟨by decide, by decide, by omega⟩, fun s s0 s1 => ?_⟩
  refine tAt_pick (Sm 6 5400) (fun x hx => ?_) s0 s1 fun x hx => h x _ hx (by omega) (by omega)
  have up : ∀ n : Nat, n ≤ 13 → Sm 6 5400 (.tup (cutT (List.replicate (Int.toNat 13) ls).flatten none (some (n : Int)))) := fun n hn => by
    refine (SmL.sub (fun x hx => (hls x hx).sm) fun y hy => rep_mem y (cut_mem y hy)).tup.mono (by decide) ?_
    have := cut_top (xs := (List.replicate (Int.toNat 13) ls).flatten) (n := n)
    have := Nat.mul_le_mul_right 181 (Nat.le_trans this hn)
    omega
  simp only [List.mem_cons, List.not_mem_nil, or_false] at hx
  rcases hx with rfl | rfl | rfl
  · exact up 12 (by decide)
  · exact up 13 (by decide)
  · exact (SmL.one S.tup).tup.mono (by decide) (by decide)
end Mine
set_option Elab.async false
set_option linter.all false
set_option autoImplicit false
set_option maxRecDepth 100000
namespace Mine
open PySem PySem.Spec PyProof.Rows L2 EV
set_option maxHeartbeats 1000000
local macro_rules | `(tactic| simp! only [$xs,*]) => `(tactic| simp only [wBin_d, wB2_d, wB1_d, wVar_d, wK_d, wNil_d, wCons_d, wTup_d, wLst_d, wIf_d, wAnd2_d, wOr2_d, wOrT_d, wAndT_d, wNot1_d, wNeg_d, wChain_d, wB_d, wTru_d, wtNot_d, wtAnd_d, wtOr_d, wtTrue_d, woNone_d, woSome_d, wSl_d, wSlL_d, wRevA_d, wApp_d, wAppK_d, wIsi_d, wSeq_d, wR1_d, wR2_d, wEnum_d, wLC_d, wDict0_d, wgSet_d, wgNil_d, wgCons_d, wgSeq_t, wgSeq_l, wsNext_d, wsBrk_d, wsCont_d, wsSeq_d, wsIf_d, wsExpr_d, wsRet_d, wsSet_d, wsPar_d, wsPar3_d, wsAsg_d, wsAppend_d, wsExtend_d, wsReverse_d, wsFor_d, wsWhile_d, wFn_d, wFnN_d, wDraw_d, vSub_d, vLt_d, vLe_d, vGt_d, vGe_d, vMax2_d, vMin2_d, vMul_t, vMul_l, vAdd_d, vAdd_t, vAdd_l, vCat_d, vEq_i, vNe_i, vEq_s, vNe_s, vIx_t, vIx_l, tAt_0, tAt_1, tAt_2, vAbs_d, vLen_t, vLen_l, vTuple_l, vTuple_t, vList_l, vList_t, vInt_b, vInt_i, vNotB_d, vIsN_d, vNotN_d, vIx_sh0, vIx_sh1, vEq_sh, vNe_sh, EV.startT, List.map_cons, List.map_nil, List.length_cons, List.length_nil, List.replicate_succ, List.replicate_zero, List.nil_append, List.cons_append, List.append_nil, List.getElem?_cons_zero, List.getElem?_cons_succ, List.set_cons_zero, List.set_cons_succ, Nat.reduceAdd, Nat.reduceSub, Nat.zero_add, wipeT, mIntT, sel, List.filterMap_cons, List.filterMap_nil, Bool.false_eq_true, if_false, if_true, true_and, and_true, and_self, Bool.and_self, Bool.not_true, Bool.not_false, decide_true, decide_false, Option.getD_some, $xs,*])
local macro_rules | `(tactic| simp! only [$xs,*] $l:location) => `(tactic| simp only [wBin_d, wB2_d, wB1_d, wVar_d, wK_d, wNil_d, wCons_d, wTup_d, wLst_d, wIf_d, wAnd2_d, wOr2_d, wOrT_d, wAndT_d, wNot1_d, wNeg_d, wChain_d, wB_d, wTru_d, wtNot_d, wtAnd_d, wtOr_d, wtTrue_d, woNone_d, woSome_d, wSl_d, wSlL_d, wRevA_d, wApp_d, wAppK_d, wIsi_d, wSeq_d, wR1_d, wR2_d, wEnum_d, wLC_d, wDict0_d, wgSet_d, wgNil_d, wgCons_d, wgSeq_t, wgSeq_l, wsNext_d, wsBrk_d, wsCont_d, wsSeq_d, wsIf_d, wsExpr_d, wsRet_d, wsSet_d, wsPar_d, wsPar3_d, wsAsg_d, wsAppend_d, wsExtend_d, wsReverse_d, wsFor_d, wsWhile_d, wFn_d, wFnN_d, wDraw_d, vSub_d, vLt_d, vLe_d, vGt_d, vGe_d, vMax2_d, vMin2_d, vMul_t, vMul_l, vAdd_d, vAdd_t, vAdd_l, vCat_d, vEq_i, vNe_i, vEq_s, vNe_s, vIx_t, vIx_l, tAt_0, tAt_1, tAt_2, vAbs_d, vLen_t, vLen_l, vTuple_l, vTuple_t, vList_l, vList_t, vInt_b, vInt_i, vNotB_d, vIsN_d, vNotN_d, vIx_sh0, vIx_sh1, vEq_sh, vNe_sh, EV.startT, List.map_cons, List.map_nil, List.length_cons, List.length_nil, List.replicate_succ, List.replicate_zero, List.nil_append, List.cons_append, List.append_nil, List.getElem?_cons_zero, List.getElem?_cons_succ, List.set_cons_zero, List.set_cons_succ, Nat.reduceAdd, Nat.reduceSub, Nat.zero_add, wipeT, mIntT, sel, List.filterMap_cons, List.filterMap_nil, Bool.false_eq_true, if_false, if_true, true_and, and_true, and_self, Bool.and_self, Bool.not_true, Bool.not_false, decide_true, decide_false, Option.getD_some, $xs,*] $l:location)
local macro_rules | `(tactic| dsimp! only [$xs,*]) => `(tactic| simp only [wBin_d, wB2_d, wB1_d, wVar_d, wK_d, wNil_d, wCons_d, wTup_d, wLst_d, wIf_d, wAnd2_d, wOr2_d, wOrT_d, wAndT_d, wNot1_d, wNeg_d, wChain_d, wB_d, wTru_d, wtNot_d, wtAnd_d, wtOr_d, wtTrue_d, woNone_d, woSome_d, wSl_d, wSlL_d, wRevA_d, wApp_d, wAppK_d, wIsi_d, wSeq_d, wR1_d, wR2_d, wEnum_d, wLC_d, wDict0_d, wgSet_d, wgNil_d, wgCons_d, wgSeq_t, wgSeq_l, wsNext_d, wsBrk_d, wsCont_d, wsIf_d, wsExpr_d, wsRet_d, wsSet_d, wsPar_d, wsPar3_d, wsAsg_d, wsAppend_d, wsExtend_d, wsReverse_d, wsFor_d, wsWhile_d, wFn_d, wFnN_d, wDraw_d, vSub_d, vLt_d, vLe_d, vGt_d, vGe_d, vMax2_d, vMin2_d, vMul_t, vMul_l, vAdd_d, vAdd_t, vAdd_l, vCat_d, vEq_i, vNe_i, vEq_s, vNe_s, vIx_t, vIx_l, tAt_0, tAt_1, tAt_2, vAbs_d, vLen_t, vLen_l, vTuple_l, vTuple_t, vList_l, vList_t, vInt_b, vInt_i, vNotB_d, vIsN_d, vNotN_d, vIx_sh0, vIx_sh1, vEq_sh, vNe_sh, EV.startT, List.map_cons, List.map_nil, List.length_cons, List.length_nil, List.replicate_succ, List.replicate_zero, List.nil_append, List.cons_append, List.append_nil, List.getElem?_cons_zero, List.getElem?_cons_succ, List.set_cons_zero, List.set_cons_succ, Nat.reduceAdd, Nat.reduceSub, Nat.zero_add, wipeT, mIntT, sel, List.filterMap_cons, List.filterMap_nil, Bool.false_eq_true, if_false, if_true, true_and, and_true, and_self, Bool.and_self, Bool.not_true, Bool.not_false, decide_true, decide_false, Option.getD_some, $xs,*])
local macro_rules | `(tactic| dsimp! only [$xs,*] $l:location) => `(tactic| simp only [wBin_d, wB2_d, wB1_d, wVar_d, wK_d, wNil_d, wCons_d, wTup_d, wLst_d, wIf_d, wAnd2_d, wOr2_d, wOrT_d, wAndT_d, wNot1_d, wNeg_d, wChain_d, wB_d, wTru_d, wtNot_d, wtAnd_d, wtOr_d, wtTrue_d, woNone_d, woSome_d, wSl_d, wSlL_d, wRevA_d, wApp_d, wAppK_d, wIsi_d, wSeq_d, wR1_d, wR2_d, wEnum_d, wLC_d, wDict0_d, wgSet_d, wgNil_d, wgCons_d, wgSeq_t, wgSeq_l, wsNext_d, wsBrk_d, wsCont_d, wsIf_d, wsExpr_d, wsRet_d, wsSet_d, wsPar_d, wsPar3_d, wsAsg_d, wsAppend_d, wsExtend_d, wsReverse_d, wsFor_d, wsWhile_d, wFn_d, wFnN_d, wDraw_d, vSub_d, vLt_d, vLe_d, vGt_d, vGe_d, vMax2_d, vMin2_d, vMul_t, vMul_l, vAdd_d, vAdd_t, vAdd_l, vCat_d, vEq_i, vNe_i, vEq_s, vNe_s, vIx_t, vIx_l, tAt_0, tAt_1, tAt_2, vAbs_d, vLen_t, vLen_l, vTuple_l, vTuple_t, vList_l, vList_t, vInt_b, vInt_i, vNotB_d, vIsN_d, vNotN_d, vIx_sh0, vIx_sh1, vEq_sh, vNe_sh, EV.startT, List.map_cons, List.map_nil, List.length_cons, List.length_nil, List.replicate_succ, List.replicate_zero, List.nil_append, List.cons_append, List.append_nil, List.getElem?_cons_zero, List.getElem?_cons_succ, List.set_cons_zero, List.set_cons_succ, Nat.reduceAdd, Nat.reduceSub, Nat.zero_add, wipeT, mIntT, sel, List.filterMap_cons, List.filterMap_nil, Bool.false_eq_true, if_false, if_true, true_and, and_true, and_self, Bool.and_self, Bool.not_true, Bool.not_false, decide_true, decide_false, Option.getD_some, $xs,*] $l:location)
theorem wr_law : WR_law [none, some .pen, none, none, none, none, none, none, none] 0 fun fl _ => fl = .ret (.bl true) := by
  have z0 : 0 ≤ sizeLine := Nat.zero_le _
  have n1 : 1 ≤ sizeLine := fitL (by decide)
  have n2 : 2 ≤ sizeLine := fitL (by decide)
  have n3 : 3 ≤ sizeLine := fitL (by decide)
  have n4 : 4 ≤ sizeLine := fitL (by decide)
  have n5 : 5 ≤ sizeLine := fitL (by decide)
  have n6 : 6 ≤ sizeLine := fitL (by decide)
  have n8 : 8 ≤ sizeLine := fitL (by decide)
  have n12 : 12 ≤ sizeLine := fitL (by decide)
  have n16 : 16 ≤ sizeLine := fitL (by decide)
  unfold WR_law
  refine wsSeq_p (fun τ c => True) (fun K k kr => ?_) (fun τ c _ => ?_)
  rotate_left
  · simp! only []
  dsimp! only []
  refine ⟨⟨by decide, by decide⟩, ?_⟩
  refine wfor_inv (fun i τ c => c ≤ 600 * i ∧ ∃ v2 v3 v4 v5 v6 v7 v8, τ = [none, some .pen, v2, v3, v4, v5, v6, v7, v8]) ?_ ?_ ⟨by omega, _, _, _, _, _, _, _, rfl⟩
  · intro i x τ c K hx ⟨hc, v2, v3, v4, v5, v6, v7, v8, e⟩ k1 _ _ _
    subst e
    obtain ⟨hi, rfl⟩ := rangeT_get hx
    have hi4 : i < 4 := by simpa using hi
    rw [wgSet_d]
    simp only [List.set_cons_zero, List.set_cons_succ]
    refine wsSeq_p (fun τ1 c1 => c ≤ c1 ∧ c1 ≤ c + 2 + 30 * 13 ∧ ∃ ls : List T, (∀ y ∈ ls, LineOk y) ∧ ls.length ≤ 13 ∧ ∃ v4 v5 v6 v7 v8, τ1 = [none, some .pen, some (.int i), some (.tup ls), v4, v5, v6, v7, v8]) (fun K k _ => ?_) ?_
    · dsimp! only [z0, n1, n2, n3, n4, n5, n6, n8, n12, n16]
      refine ⟨⟨by decide, by decide, by omega⟩, fun r r0 r1 => ⟨⟨by decide, by decide, by omega⟩, fun q q0 q1 => ?_⟩⟩
      refine tAt_int (fun i => 0 ≤ i ∧ i ≤ 13) (fun x hx => ?_) q0 q1 fun n hn => ?_
      · simp only [List.mem_cons, List.not_mem_nil, or_false] at hx
        rcases hx with rfl | rfl | rfl | rfl
        · exact ⟨_, rfl, by omega, by omega⟩
        · exact ⟨_, rfl, by decide, by decide⟩
        · exact ⟨_, rfl, by decide, by decide⟩
        · exact ⟨_, rfl, by decide, by decide⟩
      have hl : (EV.rangeT 0 (Int.toNat n)).length ≤ 13 := by rw [rangeT_len]; omega
      dsimp! only []
      refine ⟨⟨by omega, by omega⟩, ?_⟩
      refine wlc_gen id LineOk 30 (by omega) (fun x hx c1 K1 K2 g1 g2 g3 => ?_) fun zs c1 l1 l2 l3 l4 => ?_
      · dsimp! only [z0, n1, n2, n3, n4, n5, n6, n8, n12, n16]
        exact _law_line_ok (by omega) fun y c' hy h1 h2 => g3 y c' hy h1 h2
      · dsimp! only [List.map_id]
        exact k _ _ ⟨by omega, by omega, zs, l2, by omega, _, _, _, _, _, rfl⟩
    intro τ1 c1 ⟨h1, h2, ls, hls, hl, v4, v5, v6, v7, v8, e⟩
    subst e
    have S : Sm 6 5400 (.tup ls) := (SmL.of fun x hx => (hls x hx).sm).tup.mono (by decide) (by
      have := Nat.mul_le_mul_right 181 hl
      omega)
    refine wsSeq_p (fun τ1 c2 => c1 ≤ c2 ∧ c2 ≤ c1 + 5 * 12 ∧ ∃ L : List T, (∀ y ∈ L, Sm 6 5400 y) ∧ L.length ≤ 13 ∧ ∃ v5 v6 v7 v8, τ1 = [none, some .pen, some (.int i), some (.tup ls), some (.lst L), v5, v6, v7, v8]) (fun K k _ => ?_) ?_
    · dsimp! only [z0, n1, n2, n3, n4, n5, n6, n8, n12, n16]
      refine ⟨⟨by decide, by decide⟩, ?_⟩
      refine wlc_gen id (Sm 6 5400) 5 (by rw [rangeT_len]; decide) (fun x hx c1 K1 K2 g1 g2 g3 => ?_) fun zs c1 l1 l2 l3 l4 => ?_
      · rw [rangeT_len, show Int.toNat 12 = 12 from rfl] at g2
        dsimp! only [z0, n1, n2, n3, n4, n5, n6, n8, n12, n16]
        exact _law_bent_ok hls hl (by omega) fun y c' hy h1 h2 => g3 y c' hy h1 h2
      · rw [rangeT_len, show Int.toNat 12 = 12 from rfl] at l1 l4
        dsimp! only [List.map_id]
        refine ⟨fitL (by omega), k _ _ ⟨by omega, by omega, _, ?_, by simp; omega, _, _, _, _, rfl⟩⟩
        intro y hy
        rcases List.mem_cons.mp hy with rfl | hy
        · exact S
        · exact l2 y hy
    intro τ1 c2 ⟨h3, h4, L, hL, hl2, v5, v6, v7, v8, e⟩
    subst e
    have cl := Nat.le_trans (cutT_len (xs := L) (lo := none) (hi := some 1)) hl2
    dsimp! only []
    refine ⟨fitL (by omega), ?_⟩
    refine wfor_inv (fun j τ c' => c' = c2 ∧ ∃ v5 v6 v7, τ = [none, some .pen, some (.int i), some (.tup ls), some (.lst L), v5, v6, v7, v8]) ?_ ?_ ⟨rfl, _, _, _, rfl⟩
    · intro j x τ c10 K' hx ⟨hc4, v5, v6, v7, e⟩ k2 _ _ _
      subst hc4 e
      have hxm : Sm 6 5400 x := by
        rcases List.mem_append.mp (List.mem_of_getElem? hx) with h | h
        · exact hL x h
        · exact hL x (cut_mem x h)
      have ok : x.okr := hxm.okr (by decide) (by decide)
      simp! only [z0, n1, n2, n3, n4, n5, n6, n8, n12, n16, vRepr_o ok, is_program_eq hxm.rb]
      refine wfor_inv (fun j τ c' => c' = c10 ∧ ∃ v7, τ = [none, some .pen, some (.int i), some (.tup ls), some (.lst L), some x, some (.str x.pd.shown), v7, v8]) ?_ ?_ ⟨rfl, _, rfl⟩
      · intro j2 z τ c11 K2 hz ⟨hc5, v7, e⟩ k3 _ _ _
        subst hc5 e
        have ez : z = .bl (progB x) := by
          have := List.mem_of_getElem? hz
          simp only [List.mem_cons, List.not_mem_nil, or_false, or_self] at this
          exact this
        subst ez
        have nb : ∀ {b : Bool} {P : T → Prop}, vNe (.bl b) (.bl b) P = P (.bl false) := fun {b P} => by cases b <;> (rw [vNe_o ⟨rfl, Nat.zero_le _⟩ ⟨rfl, Nat.zero_le _⟩ (fun a b e => by cases e)]; rfl)
        simp! only [T.ty, isSub, Bool.true_or, _law_due_eq hxm, nb, vRepr_o ok]
        exact k3 _ _ ⟨rfl, _, rfl⟩
      · intro τ c11 ⟨hc5, v7, e⟩
        subst hc5 e
        exact k2 _ _ ⟨rfl, _, _, _, rfl⟩
    · intro τ c10 ⟨hc4, v5, v6, v7, e⟩
      subst hc4 e
      exact k1 _ _ ⟨by omega, _, _, _, _, _, _, _, rfl⟩
  · intro τ c ⟨hc, _⟩
    exact k _ _ trivial
theorem law_true (ns : List Int) (hl : ns.length ≤ 63) : ∃ h', F_law [.fz (ns.map D.int)] [] = .ok (.bl true) h' := by
  have hc : EV.cutD (ns.map D.int) none (some 63) = ns.map D.int := by
    unfold EV.cutD HT.sIx
    simp only [List.length_map]
    rw [List.drop_zero, List.take_of_length_le]
    simp only [List.length_map]
    split <;> omega
  have three : (3 ≤ sizeLine) := by rw [sizeLine_eq]; decide
  have st : F__law_pen [.fz (ns.map D.int)] [] = .ok (.ref 1) [.lst (ns.map D.int), penO 0 0 0] := by
    have main : B__law_pen (startD 1 [.fz (ns.map D.int)]) [] = .ok (.ret (.ref 1)) [.lst (ns.map D.int), penO 0 0 0] := by
      have s0 : startD 1 [.fz (ns.map D.int)] = [some (.fz (ns.map D.int))] := rfl
      rw [s0]
      unfold B__law_pen
      refine ret_n ?_
      simp only [eLst_d, aCons_d, aNil_d, eApp_d, eSlA_d, eVar_d, eK_d, oNone_d, oSome_d, slA, hc, newL, bList, seqOf, List.nil_append, List.cons_append, bind_ok, List.getElem?_cons_zero, List.getElem?_cons_succ, List.length_cons, List.length_nil, Nat.reduceAdd, Nat.zero_add, three, if_true]
      rfl
    unfold F__law_pen
    rw [mkFn_ret (np := 1) rfl main, cut_ref (by simp)]
  have P : Pen [.lst (ns.map D.int), penO 0 0 0] 1 0 ns 0 0 := ⟨rfl, rfl, by decide, by omega, by omega⟩
  have cl : Closed [.lst (ns.map D.int), penO 0 0 0] := by
    have ib : ∀ m, belows m (ns.map D.int) = true := fun m => by
      clear hl hc P st
      induction ns with
      | nil => rfl
      | cons n ns ih => simp [EV.belows, EV.below, ih]
    intro n o e
    match n, e with
    | 0, e => cases e; exact ib _
    | 1, e => cases e; rfl
  have G : Good LP 1 0 (fun m => m = 1 ∨ m = 0) [.lst (ns.map D.int), penO 0 0 0] 0 :=
    ⟨⟨ns, 0, 0, P, by simp⟩, .inl rfl, .inr rfl, fun n b => by rcases b with rfl | rfl <;> simp, cl⟩
  have main : ∃ h', B_law (startD 9 [.fz (ns.map D.int)]) [] = .ok (.ret (.bl true)) h' := by
    have s0 : startD 9 [.fz (ns.map D.int)] = [some (.fz (ns.map D.int)), none, none, none, none, none, none, none, none] := rfl
    rw [s0]
    unfold B_law
    refine top_of (σ1 := [some (.fz (ns.map D.int)), some (.ref 1), none, none, none, none, none, none, none]) (set_n (x := .ref 1) ?_) G (RF.pen0 (i := 1) (by simp) rfl) (jr_law (jd_of draw_ok)) wr_law
    simp only [eApp_d, aCons_d, aNil_d, eVar_d, bind_ok, List.getElem?_cons_zero, st]
  obtain ⟨h', main⟩ := main
  unfold F_law
  exact ⟨_, mkFn_ret (np := 1) rfl main⟩
end Mine
namespace Mine
open PySem PySem.Spec PyProof.Rows L2 EV
theorem walk {l : PySem.W.OpenLaw} {q : Program} {loose : List Str} {XP : (Str → Option Value) → Heap → Prop} {YP : World → Heap → Prop} {d : DefRec} {K : Params → PySem.W.Frag} (hn : l.most = some 63) (hdf : d.params.defaults = [])
    (hY : ∀ (w : World) (h : Heap), YP w h → (K w.params).In h)
    (F : ∀ (w : World) (mg : Str → Option Value) (fa : Addr) (h : Heap), (K w.params).In h → h.Ns mainGlobals mg → mg d.name = some (.ref fa) →
      ∃ fd : FuncData, (∀ (s : Shared) (u : Value), BindsTo s fd ⟨[u], []⟩ [("_law_script", u)]) ∧ ∀ base : Heap, (K w.params).In base → base.Ns mainGlobals mg → FnOk l.prog w (K w.params) mg base CX0 7 fa fd ["_law_script"] (spF (K w.params) 1 F_law)) :
    PySem.W.WalkO q loose XP YP l.row.toRowW d [] (fun f vs => PySem.call f vs) :=
  L2.walk_of (n := 63) (k := 7) (x := "_law_script") (CX := fun _ => CX0) (sp := fun w => spF (K w.params) 1 F_law) hn (by decide) hdf ⟨rfl, by decide, by decide, rfl⟩ hY F (fun _ H a ns hl hO hS => spF_law hl hO hS (law_true ns hl)) fun _ _ _ _ _ z => z
end Mine
open PySem PySem.W PyProof.Rows
set_option maxRecDepth 100000 in
set_option maxHeartbeats 0 in
theorem PySem.Challenge.cw_crossmarks_k84_programs_known_holds : PySem.Challenge.rw_crossmarks_k84_programs_known.Holds := by
  w_on; o_law; k_head; (case hw => w_witness2)
  k_fill
  refine Mine.walk (l := PySem.Challenge.rw_crossmarks_k84_programs_known) rfl rfl (fun w h Y => PySem.W.kIn_of Y) ?F
  case F =>
    intro w mg fa h KX G hmg
    refine' Mine.all_mk KX G hmg ?hh_a0 ?hh_l0 ?hh_e0 ?hh_k0 ?hh_a1 ?hh_l1 ?hh_e1 ?hh_k1 ?hh_a2 ?hh_l2 ?hh_e2 ?hh_k2 ?hh_a3 ?hh_l3 ?hh_e3 ?hh_k3 ?hh_a4 ?hh_l4 ?hh_e4 ?hh_k4 ?hh_a5 ?hh_l5 ?hh_e5 ?hh_k5 ?hh_a6 ?hh_l6 ?hh_e6 ?hh_k6 ?hh_a7 ?hh_l7 ?hh_e7 ?hh_k7 ?hh_a8 ?hh_l8 ?hh_e8 ?hh_k8 ?hh_a9 ?hh_l9 ?hh_e9 ?hh_k9 ?hh_a10 ?hh_l10 ?hh_e10 ?hh_k10 ?hh_a11 ?hh_l11 ?hh_e11 ?hh_k11 ?hh_a12 ?hh_l12 ?hh_e12 ?hh_k12 ?hh_a13 ?hh_l13 ?hh_e13 ?hh_k13 ?hh_a14 ?hh_l14 ?hh_e14 ?hh_k14 ?hh_a15 ?hh_l15 ?hh_e15 ?hh_k15 ?hh_a16 ?hh_l16 ?hh_e16 ?hh_k16 ?hh_a17 ?hh_l17 ?hh_e17 ?hh_k17 ?hh_a18 ?hh_l18 ?hh_e18 ?hh_k18 ?hh_a19 ?hh_l19 ?hh_e19 ?hh_k19 ?hh_a20 ?hh_l20 ?hh_e20 ?hh_k20 ?hh_z0 ?hh_z1 ?hh_z2 ?hh_z3 ?hh_z4 ?hh_z5 ?hh_z6 ?hh_z7 ?hh_z8 ?hh_z9 ?hh_z10 ?hh_g0 ?hh_g1 ?hh_g2
    (case hh_a0 => k_is)
    (case hh_l0 => k_is)
    (case hh_e0 => k_is)
    (case hh_k0 => k_is)
    (case hh_a1 => k_is)
    (case hh_l1 => k_is)
    (case hh_e1 => k_is)
    (case hh_k1 => k_is)
    (case hh_a2 => k_is)
    (case hh_l2 => k_is)
    (case hh_e2 => k_is)
    (case hh_k2 => k_is)
    (case hh_a3 => k_is)
    (case hh_l3 => k_is)
    (case hh_e3 => k_is)
    (case hh_k3 => k_is)
    (case hh_a4 => k_is)
    (case hh_l4 => k_is)
    (case hh_e4 => k_is)
    (case hh_k4 => k_is)
    (case hh_a5 => k_is)
    (case hh_l5 => k_is)
    (case hh_e5 => k_is)
    (case hh_k5 => k_is)
    (case hh_a6 => k_is)
    (case hh_l6 => k_is)
    (case hh_e6 => k_is)
    (case hh_k6 => k_is)
    (case hh_a7 => k_is)
    (case hh_l7 => k_is)
    (case hh_e7 => k_is)
    (case hh_k7 => k_is)
    (case hh_a8 => k_is)
    (case hh_l8 => k_is)
    (case hh_e8 => k_is)
    (case hh_k8 => k_is)
    (case hh_a9 => k_is)
    (case hh_l9 => k_is)
    (case hh_e9 => k_is)
    (case hh_k9 => k_is)
    (case hh_a10 => k_is)
    (case hh_l10 => k_is)
    (case hh_e10 => k_is)
    (case hh_k10 => k_is)
    (case hh_a11 => k_is)
    (case hh_l11 => k_is)
    (case hh_e11 => k_is)
    (case hh_k11 => k_is)
    (case hh_a12 => k_is)
    (case hh_l12 => k_is)
    (case hh_e12 => k_is)
    (case hh_k12 => k_is)
    (case hh_a13 => k_is)
    (case hh_l13 => k_is)
    (case hh_e13 => k_is)
    (case hh_k13 => k_is)
    (case hh_a14 => k_is)
    (case hh_l14 => k_is)
    (case hh_e14 => k_is)
    (case hh_k14 => k_is)
    (case hh_a15 => k_is)
    (case hh_l15 => k_is)
    (case hh_e15 => k_is)
    (case hh_k15 => k_is)
    (case hh_a16 => k_is)
    (case hh_l16 => k_is)
    (case hh_e16 => k_is)
    (case hh_k16 => k_is)
    (case hh_a17 => k_is)
    (case hh_l17 => k_is)
    (case hh_e17 => k_is)
    (case hh_k17 => k_is)
    (case hh_a18 => k_is)
    (case hh_l18 => k_is)
    (case hh_e18 => k_is)
    (case hh_k18 => k_is)
    (case hh_a19 => k_is)
    (case hh_l19 => k_is)
    (case hh_e19 => k_is)
    (case hh_k19 => k_is)
    (case hh_a20 => k_is)
    (case hh_l20 => k_is)
    (case hh_e20 => k_is)
    (case hh_k20 => k_is)
    (case hh_z0 => k_is)
    (case hh_z1 => k_is)
    (case hh_z2 => k_is)
    (case hh_z3 => k_is)
    (case hh_z4 => k_is)
    (case hh_z5 => k_is)
    (case hh_z6 => k_is)
    (case hh_z7 => k_is)
    (case hh_z8 => k_is)
    (case hh_z9 => k_is)
    (case hh_z10 => k_is)
    (case hh_g0 => k_is)
    (case hh_g1 => k_is)
    (case hh_g2 => k_is)

