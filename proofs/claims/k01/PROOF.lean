
import PyProof.Rows.All
import Wide.All
import OpenK.AllK
import Wide.FinOn
import PyProof.EqAt
import PyProof.EqKinds
import PyProof.TupleCall
import KE.BitLaws
import KE.RegKTryMore
import KE.KSortTup
import PyProof.Rows.EqMixed
import PyProof.NeKinds
import PyProof.FactsAll.dict_1
import PyProof.SetScanFacts
import PyProof.TupleKey
import PyProof.P3Eq
import PyProof.SetKind
import PyProof.IsRules
import PyProof.Rows.SetFrom
import PyProof.WalksMore
import PyProof.CollectWalk
import PyProof.DictIter
import KE.KDictSum
import PyProof.FString
import PyProof.ExcAttrAll.ValueError
import KE.RegKIsAll
import PyProof.NsDelKeeps
import OpenK.KMake
import PyProof.InstStoreFacts
import PyProof.ExcInit
import PyProof.ExcBaseAll.LookupError
import PyProof.ExcBaseAll.ValueError
import PyProof.ExcBaseAll.ZeroDivisionError
import PyProof.FitsInt
import PyProof.Rows.ReprOcc
import PySem.Challenge.RW_crossmarks_k01_shares_known_and_made
set_option Elab.async false
set_option linter.all false
set_option maxRecDepth 100000
namespace L2
open PySem PySem.Spec PyProof.Rows
abbrev Key := Sum Int Str
def keyIs : Key → Value → Bool
  | .inl k, v => Value.isInt k v
  | .inr x, v => Value.isStrOf x v
def keyH (w : World) : Key → Int
  | .inl k => hashInt k
  | .inr x => hashStr w x
theorem keyIs_shape : ∀ {k : Key} {v : Value}, keyIs k v = true → (∃ i t, k = Sum.inl i ∧ v = Value.int i t) ∨ (∃ x t, k = Sum.inr x ∧ v = Value.str x t)
  | .inl i, v, h => by
    obtain ⟨t, e⟩ := Value.isInt_shape (k := i) (v := v) h
    exact .inl ⟨i, t, rfl, e⟩
  | .inr x, v, h => by
    obtain ⟨t, e⟩ := Value.isStrOf_shape (x := x) (v := v) h
    exact .inr ⟨x, t, rfl, e⟩
theorem keyIs_int (i : Int) (t : Tok) : keyIs (.inl i) (.int i t) = true := by simp [keyIs, Value.isInt]
theorem keyIs_str (x : Str) (t : Tok) : keyIs (.inr x) (.str x t) = true := by simp [keyIs, Value.isStrOf]
theorem key_ll (a b : Int) : decide ((Sum.inl a : Key) = Sum.inl b) = (a == b) := by
  by_cases e : a = b
  · subst e; simp
  · have h : ¬ (Sum.inl a : Key) = Sum.inl b := fun q => e (Sum.inl.inj q)
    rw [decide_eq_false h]
    exact (beq_eq_false_iff_ne.mpr e).symm
theorem key_rr (a b : Str) : decide ((Sum.inr a : Key) = Sum.inr b) = decide (a = b) := by
  by_cases e : a = b
  · subst e; simp
  · have h : ¬ (Sum.inr a : Key) = Sum.inr b := fun q => e (Sum.inr.inj q)
    rw [decide_eq_false h, decide_eq_false e]
theorem key_lr (a : Int) (b : Str) : decide ((Sum.inl a : Key) = Sum.inr b) = false := decide_eq_false (fun q => nomatch q)
theorem key_rl (a : Str) (b : Int) : decide ((Sum.inr a : Key) = Sum.inl b) = false := decide_eq_false (fun q => nomatch q)
def mixKind (prog : Program) (w : World) : PySem.KeyKind prog w Key where
  is := keyIs
  hash := keyH w
  inj := fun v a b ha hb => by
    rcases keyIs_shape ha with ⟨i, t, rfl, rfl⟩ | ⟨x, t, rfl, rfl⟩
    · rcases keyIs_shape hb with ⟨j, u, rfl, e⟩ | ⟨y, u, rfl, e⟩
      · injection e with e1 _; rw [e1]
      · exact nomatch e
    · rcases keyIs_shape hb with ⟨j, u, rfl, e⟩ | ⟨y, u, rfl, e⟩
      · exact nomatch e
      · injection e with e1 _; rw [e1]
  byValue := fun k v h => by
    rcases keyIs_shape h with ⟨i, t, rfl, rfl⟩ | ⟨x, t, rfl, rfl⟩ <;> rfl
  pyHash := fun hv h => by
    rcases keyIs_shape hv with ⟨i, t, rfl, rfl⟩ | ⟨x, t, rfl, rfl⟩
    · exact wpAny_pyHash_int h
    · exact wpAny_pyHash_str h
  eqBool := fun hu hv h => by
    rcases keyIs_shape hu with ⟨i, t, rfl, rfl⟩ | ⟨x, t, rfl, rfl⟩
    · rcases keyIs_shape hv with ⟨j, u, rfl, rfl⟩ | ⟨y, u, rfl, rfl⟩
      · rw [key_ll] at h; exact wpAny_eqBool_int h
      · rw [key_lr] at h; exact SeqAt.EqAt.int_str i t y u _ _ _ _ h
    · rcases keyIs_shape hv with ⟨j, u, rfl, rfl⟩ | ⟨y, u, rfl, rfl⟩
      · rw [key_rl] at h; exact SeqAt.EqAt.str_int x t j u _ _ _ _ h
      · rw [key_rr] at h; exact wpAny_eqBool_str h
  «strs» := fun k x t v h => by
    rcases keyIs_shape h with ⟨i, u, rfl, e⟩ | ⟨y, u, rfl, e⟩
    · exact nomatch e
    · injection e with e1 _
      subst e1
      cases v <;> rfl
theorem mixKind_int (prog : Program) (w : World) (i : Int) (t : Tok) : (mixKind prog w).is (.inl i) (.int i t) = true := keyIs_int i t
theorem mixKind_str (prog : Program) (w : World) (x : Str) (t : Tok) : (mixKind prog w).is (.inr x) (.str x t) = true := keyIs_str x t
end L2
namespace L2
open PySem PySem.Spec PyProof.Rows
inductive V where
  | non | bl (b : Bool) | int (i : Int) | str (x : Str) | byt (b : Array UInt8) | flt (b : UInt64) | ref (a : Addr) | ty (n : String)
  deriving DecidableEq
def RelV : V → Value → Prop
  | .non, u => u = Value.none
  | .bl b, u => u = Value.bool b
  | .int i, u => ∃ t, u = Value.int i t
  | .str x, u => ∃ t, u = Value.str x t
  | .byt b, u => ∃ t, u = Value.bytes b t
  | .flt b, u => ∃ t, u = Value.float b t
  | .ref a, u => u = Value.ref a
  | .ty n, u => u = Value.type n
abbrev Vals : List V → List Value → Prop := Paired RelV
theorem Vals.length {xs : List V} {us : List Value} (r : Vals xs us) : xs.length = us.length := Paired.length r
theorem Vals.get : ∀ {xs : List V} {us : List Value} {i : Nat} {x : V}, Vals xs us → xs[i]? = some x → ∃ u, us[i]? = some u ∧ RelV x u
  | _, _, _, _, .nil, e => by simp at e
  | _, _, 0, _, .cons r _, e => by simp at e; subst e; exact ⟨_, rfl, r⟩
  | _, _, i + 1, x, .cons _ t, e => by
    obtain ⟨u, h1, h2⟩ := Vals.get (i := i) (x := x) t (by simpa using e)
    exact ⟨u, by simpa using h1, h2⟩
theorem Vals.set {x : V} {u : Value} (r : RelV x u) : ∀ {xs : List V} {us : List Value} (i : Nat), Vals xs us → Vals (xs.set i x) (us.set i u)
  | _, _, _, .nil => .nil
  | _, _, 0, .cons _ t => .cons r t
  | _, _, i + 1, .cons q t => .cons q (Vals.set r i t)
theorem Vals.append : ∀ {xs ys : List V} {us ws : List Value}, Vals xs us → Vals ys ws → Vals (xs ++ ys) (us ++ ws)
  | _, _, _, _, .nil, s => s
  | _, _, _, _, .cons r t, s => .cons r (Vals.append t s)
theorem Vals.take : ∀ {xs : List V} {us : List Value} (n : Nat), Vals xs us → Vals (xs.take n) (us.take n)
  | _, _, 0, _ => .nil
  | _, _, _ + 1, .nil => .nil
  | _, _, n + 1, .cons r t => .cons r (Vals.take n t)
theorem Vals.drop : ∀ {xs : List V} {us : List Value} (n : Nat), Vals xs us → Vals (xs.drop n) (us.drop n)
  | _, _, 0, r => r
  | _, _, _ + 1, .nil => .nil
  | _, _, n + 1, .cons _ t => Vals.drop n t
theorem Vals.none_of : ∀ {xs : List V} {us : List Value} {i : Nat}, Vals xs us → xs[i]? = none → us[i]? = none := fun {xs us i} r e => by
  have h1 := r.length
  have h2 : xs.length ≤ i := List.getElem?_eq_none_iff.mp e
  exact List.getElem?_eq_none_iff.mpr (by omega)
def RelO : Option V → Option Value → Prop
  | some v, some u => RelV v u
  | none, none => True
  | _, _ => False
def KV {κ : Type} : List (κ × V) → List (κ × Value) → Prop := Paired fun (p : κ × V) (q : κ × Value) => p.1 = q.1 ∧ RelV p.2 q.2
def kV : Key → V
  | .inl i => .int i
  | .inr x => .str x
inductive HO where
  /-- a list -/
  | lst (xs : List V)
  /-- a tuple (never changes) -/
  | tup (xs : List V)
  /-- a dict whose keys are ints and texts; one whose keys are tuples of ints and texts (the empty one is both) -/
  | dK (kvs : List (Key × V)) | dT (kvs : List (List Key × V))
  /-- a set of ints: its members, its size -/
  | set (S : Int → Bool) (n : Nat)
  /-- an instance of the class at C, its dict at dx, its attributes -/
  | ins (C dx : Addr) (fs : List (Str × V))
  /-- the dict of the instance at x -/
  | own (x : Addr)
  /-- the dict of an exception -/
  | xd (fs : List (Str × V))
  /-- a bound method, f of x -/
  | met (f x : Addr)
  /-- a range object lo, lo + 1, .. below hi -/
  | rng (lo hi : Int)
  /-- a thing that is known to the object (the script; a dict while a loop walks it): read, never written while it is so -/
  | frz (o : Obj) (u : HO)
  /-- a code object's table -/
  | tbl (ps : Array Value)
  /-- any other thing, by what is true of its one object (a def of one's own: SetO a S n := HO.ext fun h => ..) -/
  | ext (φ : Heap → Prop)
abbrev Hp := Addr → Option HO
def upd (H : Hp) (a : Addr) (o : HO) : Hp := fun b => if b = a then some o else H b
theorem upd_same {H : Hp} {a : Addr} {o : HO} : upd H a o a = some o := by unfold upd; rw [if_pos rfl]
theorem upd_ne {H : Hp} {a b : Addr} {o : HO} (h : b ≠ a) : upd H a o b = H b := by unfold upd; rw [if_neg h]
theorem ne_of {H : Hp} {a b : Addr} {o u : HO} (h : H a = some o) (h' : H b = some u) (d : o ≠ u) : a ≠ b := by
  intro e; subst e; rw [h] at h'; exact d (Option.some.inj h')
theorem ne_of_none {H : Hp} {a b : Addr} {o : HO} (h : H a = some o) (h' : H b = none) : a ≠ b := by
  intro e; subst e; rw [h] at h'; cases h'
section
variable (P : Program) (w : World)
def ObjOk (H : Hp) (h : Heap) (a : Addr) : HO → Prop
  | .lst xs => xs.length ≤ sizeLine ∧ ∃ (its : List Value) (n : Nat), Vals xs its ∧ h.get? a = some { cls := .type "list", data := .seq its.toArray n }
  | .tup xs => xs.length ≤ sizeLine ∧ ∃ its : List Value, Vals xs its ∧ IsTup h a its.toArray ∧ ∃ o, h.get? a = some o ∧ o.dict = none
  | .dK kvs => kvs.length ≤ sizeLine ∧ (a == sysModules) = false ∧ ∃ vs, KV kvs vs ∧ h.DictOf (mixKind P w) a vs
  | .dT kvs => kvs.length ≤ sizeLine ∧ (a == sysModules) = false ∧ ∃ xs : List (List Key × Addr × Value),
      Paired (fun (p : List Key × V) (q : List Key × Addr × Value) => p.1 = q.1 ∧ H q.2.1 = some (.tup (p.1.map kV)) ∧ RelV p.2 q.2.2) kvs xs ∧
      ∃ o es ep, h.get? a = some o ∧ o.ExactDict ∧ o.data = .dict es ep ∧ es.toList = xs.map (entryOfKey (tupleKind (mixKind P w))) ∧ (xs.map (·.1)).Nodup
  | .set S n => h.SetOf (intKind P w) a S n
  | .ins C dx fs => H dx = some (.own a) ∧ fs.length ≤ 1000 ∧ dx ≠ a ∧ h.get? a = some (PySem.W.instObj C dx) ∧
      ∃ mA, h.Ns1 dx mA ∧ (∀ f, RelO (fs.lookup f) (mA f)) ∧ PySem.Within mA (fs.map (·.1))
  | .own _ => ∃ o, h.get? a = some o
  | .xd fs => ∃ mA, h.Ns1 a mA ∧ ∀ f, RelO (fs.lookup f) (mA f)
  | .rng lo hi => ∃ t u v, h.get? a = some { cls := .type "range", data := .fields #[.int lo t, .int hi u, .int 1 v] }
  | .frz o u => h.get? a = some o ∧ ObjOk H h a u
  | .tbl ps => h.get? a = some { cls := .none, data := .fields ps }
  | .met f x => h.get? a = some (PySem.W.methodObj (.ref f) (.ref x))
  | .ext φ => φ h ∧ (∃ o, h.get? a = some o) ∧ ∀ h1 h2 : Heap, φ h1 → (∀ o, h1.get? a = some o → h2.get? a = some o) → φ h2
def HOk (H : Hp) (h : Heap) : Prop := ∀ a o, H a = some o → ObjOk P w H h a o
end
section
variable {P : Program} {w : World} {H H' : Hp} {h h' : Heap} {a : Addr} {o : HO}
theorem ObjOk.lt (x : ObjOk P w H h a o) : a < h.objs.size := by
  cases o with
  | lst xs => obtain ⟨_, _, _, _, e⟩ := x; exact Heap.lt_size e
  | tup xs => obtain ⟨_, _, _, p, _⟩ := x; exact p.lt
  | dK kvs => obtain ⟨_, _, _, _, o, _, _, e, _⟩ := x; exact Heap.lt_size e
  | dT kvs => obtain ⟨_, _, _, _, o, _, _, e, _⟩ := x; exact Heap.lt_size e
  | set S n => obtain ⟨o, _, _, _, e, _⟩ := x; exact Heap.lt_size e
  | ins C dx fs => obtain ⟨_, _, _, e, _⟩ := x; exact Heap.lt_size e
  | own y => obtain ⟨_, e⟩ := x; exact Heap.lt_size e
  | xd fs => obtain ⟨_, ⟨_, _, _, e, _⟩, _⟩ := x; exact Heap.lt_size e
  | rng lo hi => obtain ⟨_, _, _, e⟩ := x; exact Heap.lt_size e
  | frz ob u => obtain ⟨e, _⟩ := x; exact Heap.lt_size e
  | tbl ps => exact Heap.lt_size (show h.get? a = some _ from x)
  | met f y => exact Heap.lt_size (show h.get? a = some _ from x)
  | ext φ => obtain ⟨_, ⟨_, e⟩, _⟩ := x; exact Heap.lt_size e
theorem Paired.mapP {α β : Type} {F G : α → β → Prop} : ∀ {l₁ : List α} {l₂ : List β}, Paired F l₁ l₂ → (∀ a b, F a b → G a b) → Paired G l₁ l₂
  | _, _, .nil, _ => .nil
  | _, _, .cons r t, f => .cons (f _ _ r) (Paired.mapP t f)
theorem ObjOk.stay (x : ObjOk P w H h a o) (k : ∀ b u, (b = a ∨ H b = some (.own a)) → h.get? b = some u → h'.get? b = some u)
    (ho : ∀ b, H b = some (.own a) → H' b = some (.own a)) (ht : ∀ b xs, H b = some (.tup xs) → H' b = some (.tup xs)) : ObjOk P w H' h' a o := by
  induction o with
  | lst xs => obtain ⟨z, its, n, r, e⟩ := x; exact ⟨z, its, n, r, k _ _ (.inl rfl) e⟩
  | tup xs => obtain ⟨z, its, r, ⟨ob, e, c⟩, b2, e2, d2⟩ := x; exact ⟨z, its, r, ⟨ob, k _ _ (.inl rfl) e, c⟩, b2, k _ _ (.inl rfl) e2, d2⟩
  | dK kvs => obtain ⟨z, y, vs, r, ob, es, ep, e, c⟩ := x; exact ⟨z, y, vs, r, ob, es, ep, k _ _ (.inl rfl) e, c⟩
  | dT kvs =>
    obtain ⟨z, y, xs, r, ob, es, ep, e, c⟩ := x
    exact ⟨z, y, xs, Paired.mapP r fun p q z => ⟨z.1, ht _ _ z.2.1, z.2.2⟩, ob, es, ep, k _ _ (.inl rfl) e, c⟩
  | set S n => obtain ⟨ob, es, ep, t, e, c⟩ := x; exact ⟨ob, es, ep, t, k _ _ (.inl rfl) e, c⟩
  | ins C dx fs =>
    obtain ⟨d, z, ne, e, mA, ⟨od, es, ep, e2, c⟩, r⟩ := x
    exact ⟨ho _ d, z, ne, k _ _ (.inl rfl) e, mA, ⟨od, es, ep, k _ _ (.inr d) e2, c⟩, r⟩
  | own y => obtain ⟨ob, e⟩ := x; exact ⟨ob, k _ _ (.inl rfl) e⟩
  | xd fs => obtain ⟨mA, ⟨od, es, ep, e, c⟩, r⟩ := x; exact ⟨mA, ⟨od, es, ep, k _ _ (.inl rfl) e, c⟩, r⟩
  | rng lo hi => obtain ⟨t, u, v, e⟩ := x; exact ⟨t, u, v, k _ _ (.inl rfl) e⟩
  | frz ob u ih => obtain ⟨e, q⟩ := x; exact ⟨k _ _ (.inl rfl) e, ih q⟩
  | tbl ps =>
    have e : h.get? a = some { cls := .none, data := .fields ps } := x
    show h'.get? a = some { cls := .none, data := .fields ps }
    exact k a _ (.inl rfl) e
  | met f y =>
    have e : h.get? a = some (PySem.W.methodObj (.ref f) (.ref y)) := x
    show h'.get? a = some (PySem.W.methodObj (.ref f) (.ref y))
    exact k a _ (.inl rfl) e
  | ext φ => obtain ⟨p, ⟨o, e⟩, st⟩ := x; exact ⟨st _ _ p fun o q => k _ _ (.inl rfl) q, ⟨o, k _ _ (.inl rfl) e⟩, st⟩
theorem HOk.lt (x : HOk P w H h) (e : H a = some o) : a < h.objs.size := (x a o e).lt
theorem HOk.fresh (x : HOk P w H h) (e : h.objs.size ≤ a) : H a = none := by
  cases q : H a with
  | none => rfl
  | some u => exact absurd (Nat.lt_of_lt_of_le (x.lt q) e) (Nat.lt_irrefl _)
theorem HOk.kept (x : HOk P w H h) (k : ∀ b u, h.get? b = some u → h'.get? b = some u) : HOk P w H h' := fun a o e =>
  (x a o e).stay (fun b u _ q => k b u q) (fun _ q => q) fun _ _ q => q
theorem HOk.laid (x : HOk P w H h) (k : ∀ b u, h.get? b = some u → h'.get? b = some u) (hp : h.objs.size ≤ a) (new : ObjOk P w (upd H a o) h' a o) : HOk P w (upd H a o) h' := fun b u e => by
  have hn := x.fresh hp
  by_cases hb : b = a
  · subst hb; rw [upd_same] at e; cases e; exact new
  · rw [upd_ne hb] at e
    exact (x b u e).stay (fun c v _ q => k c v q) (fun c q => by rw [upd_ne (ne_of_none q hn)]; exact q) fun c xs q => by rw [upd_ne (ne_of_none q hn)]; exact q
end
def Rd (H : Hp) (a : Addr) (u : HO) : Prop := H a = some u ∨ ∃ o, H a = some (.frz o u)
theorem Rd.of {H : Hp} {a : Addr} {u : HO} (h : H a = some u) : Rd H a u := .inl h
theorem Rd.ok {P : Program} {w : World} {H : Hp} {h : Heap} {a : Addr} {u : HO} (r : Rd H a u) (x : HOk P w H h) : ObjOk P w H h a u := by
  rcases r with r | ⟨o, r⟩
  · exact x a u r
  · obtain ⟨_, q⟩ := x a _ r
    exact q
def Mut : Option HO → Prop
  | some (.lst _) => True
  | some (.dK _) => True
  | some (.dT _) => True
  | some (.set _ _) => True
  | some (.ins _ _ _) => True
  | some (.ext _) => True
  | _ => False
section
variable {P : Program} {w : World} {H : Hp} {h h' : Heap} {x e : Addr} {o' : HO}
theorem HOk.write (ok : HOk P w H h) (mu : Mut (H x)) (he : e = x ∨ H e = some (.own x)) (k : ∀ b u, b ≠ e → h.get? b = some u → h'.get? b = some u) (heo : ∃ u, h'.get? e = some u)
    (new : ObjOk P w (upd H x o') h' x o') : HOk P w (upd H x o') h' := fun b u q => by
  have nown : ∀ c y, H c = some (.own y) → c ≠ x := fun c y r z => by subst z; rw [r] at mu; exact mu
  have ntup : ∀ c xs, H c = some (.tup xs) → c ≠ x := fun c xs r z => by subst z; rw [r] at mu; exact mu
  by_cases hb : b = x
  · subst hb; rw [upd_same] at q; cases q; exact new
  · rw [upd_ne hb] at q
    by_cases hbe : b = e
    · have q' : H b = some (.own x) := by
        rcases he with z | z
        · exact absurd (hbe.trans z) hb
        · rw [hbe]; exact z
      rw [q] at q'; cases q'
      obtain ⟨v, hv⟩ := heo
      exact ⟨v, by rw [hbe]; exact hv⟩
    · refine (ok b u q).stay (fun c v hc r => k c v ?_ r) (fun c r => by rw [upd_ne (nown c b r)]; exact r) fun c xs r => by rw [upd_ne (ntup c xs r)]; exact r
      rcases hc with rfl | hc
      · exact hbe
      · rintro rfl
        rcases he with z | z
        · exact nown c b hc z
        · rw [hc] at z; cases z; exact hb rfl
end
structure Un (fs ex : List Addr) (H H' : Hp) (h h' : Heap) : Prop where
  keep : ∀ b o, h.get? b = some o → H b = none → b ∉ fs → b ∉ ex → h'.get? b = some o
  slot : ∀ b o, h.get? b = some o → H b = none → b ∈ fs → b ∉ ex → ∃ sl, h'.get? b = some { o with slots := sl }
  free : ∀ b o, h.get? b = some o → H b = none → b ∉ ex → H' b = none
  there : ∀ b o, h.get? b = some o → b ∉ ex → ∃ o', h'.get? b = some o'
  tups : ∀ b xs, H b = some (.tup xs) → H' b = some (.tup xs)
  frzs : ∀ b o u, H b = some (.frz o u) → H' b = some (.frz o u)
  tbls : ∀ b ps, H b = some (.tbl ps) → ∃ more, H' b = some (.tbl (ps ++ more))
section
variable {fs fs' ex ex' : List Addr} {H H1 H2 : Hp} {h h1 h2 h' : Heap} {a x e : Addr} {o : HO}
theorem Un.any (u : Un fs ex H H1 h h1) {b : Addr} {ob : Obj} (q : h.get? b = some ob) (n : H b = none) (hx : b ∉ ex) : ∃ sl, h1.get? b = some { ob with slots := sl } := by
  by_cases hb : b ∈ fs
  · exact u.slot b ob q n hb hx
  · exact ⟨ob.slots, u.keep b ob q n hb hx⟩
theorem Un.trans (a : Un fs ex H H1 h h1) (b : Un fs ex H1 H2 h1 h2) : Un fs ex H H2 h h2 where
  keep := fun c ob q n hc hx => b.keep c ob (a.keep c ob q n hc hx) (a.free c ob q n hx) hc hx
  slot := fun c ob q n hc hx => by
    obtain ⟨sl, e1⟩ := a.slot c ob q n hc hx
    obtain ⟨sl', e2⟩ := b.slot c _ e1 (a.free c ob q n hx) hc hx
    exact ⟨sl', e2⟩
  free := fun c ob q n hx => by
    obtain ⟨o', e1⟩ := a.there c ob q hx
    exact b.free c o' e1 (a.free c ob q n hx) hx
  there := fun c ob q hx => by
    obtain ⟨o', e1⟩ := a.there c ob q hx
    exact b.there c o' e1 hx
  tups := fun c xs q => b.tups c xs (a.tups c xs q)
  frzs := fun c ob xs q => b.frzs c ob xs (a.frzs c ob xs q)
  tbls := fun c ps q => by
    obtain ⟨m1, e1⟩ := a.tbls c ps q
    obtain ⟨m2, e2⟩ := b.tbls c _ e1
    exact ⟨m1 ++ m2, by rw [e2, Array.append_assoc]⟩
theorem Un.kept (k : ∀ b u, h.get? b = some u → h'.get? b = some u) : Un fs ex H H h h' :=
  ⟨fun b ob q _ _ _ => k b ob q, fun b ob q _ _ _ => ⟨ob.slots, k b ob q⟩, fun _ _ _ n _ => n, fun b ob q _ => ⟨ob, k b ob q⟩, fun _ _ q => q, fun _ _ _ q => q, fun _ ps q => ⟨#[], by rw [q]; simp⟩⟩
theorem Un.refl : Un fs ex H H h h := Un.kept fun _ _ q => q
theorem Un.laid (k : ∀ b u, h.get? b = some u → h'.get? b = some u) (hp : h.objs.size ≤ a) (hn : H a = none) : Un fs ex H (upd H a o) h h' where
  keep := fun b u q _ _ _ => k b u q
  slot := fun b u q _ _ _ => ⟨u.slots, k b u q⟩
  free := fun b u q n _ => by rw [upd_ne (Nat.ne_of_lt (Nat.lt_of_lt_of_le (Heap.lt_size q) hp))]; exact n
  there := fun b u q _ => ⟨u, k b u q⟩
  tups := fun b xs q => by rw [upd_ne (ne_of_none q hn)]; exact q
  frzs := fun b u xs q => by rw [upd_ne (ne_of_none q hn)]; exact q
  tbls := fun b ps q => ⟨#[], by rw [upd_ne (ne_of_none q hn), q]; simp⟩
theorem Un.write (mu : Mut (H x)) (he : e = x ∨ H e = some (.own x)) (k : ∀ b u, b ≠ e → h.get? b = some u → h'.get? b = some u) (heo : ∃ u, h'.get? e = some u) : Un fs ex H (upd H x o) h h' := by
  have hx : ∀ b, H b = none → b ≠ x := fun b n z => by subst z; rw [n] at mu; exact mu
  have hb : ∀ b, H b = none → b ≠ e := fun b n z => by
    subst z
    rcases he with r | r
    · exact hx b n r
    · rw [n] at r; cases r
  have hm : ∀ b u, H b = some u → ¬ Mut (some u) → b ≠ x := fun b u q nm z => by subst z; rw [q] at mu; exact nm mu
  refine ⟨fun b u q n _ _ => k b u (hb b n) q, fun b u q n _ _ => ⟨u.slots, k b u (hb b n) q⟩, fun b u q n _ => by rw [upd_ne (hx b n)]; exact n, fun b u q _ => ?_,
    fun b xs q => by rw [upd_ne (hm b _ q fun z => z)]; exact q, fun b u xs q => by rw [upd_ne (hm b _ q fun z => z)]; exact q, fun b ps q => ⟨#[], by rw [upd_ne (hm b _ q fun z => z), q]; simp⟩⟩
  by_cases hbe : b = e
  · subst hbe; exact heo
  · exact ⟨u, k b u hbe q⟩
theorem Un.mono (u : Un fs ex H H1 h h1) (hs : ∀ b ∈ fs, b ∈ fs') (hx : ∀ b ∈ ex, b ∈ ex') : Un fs' ex' H H1 h h1 :=
  ⟨fun b ob q n hb he => u.keep b ob q n (fun z => hb (hs b z)) fun z => he (hx b z), fun _ _ q n _ he => u.any q n fun z => he (hx _ z), fun b ob q n he => u.free b ob q n fun z => he (hx b z), fun b ob q he => u.there b ob q fun z => he (hx b z), u.tups, u.frzs, u.tbls⟩
end
def trk (h : Heap) (H : Hp) : List Addr := (List.range h.objs.size).filter fun a => (H a).isSome
def hidT (h : Heap) (H : Hp) : Heap := PySem.W.hideAll h (trk h H)
theorem hidT_size (h : Heap) (H : Hp) : (hidT h H).objs.size = h.objs.size := PySem.W.hideAll_size _ _
theorem hidT_get {h : Heap} {H : Hp} {b : Addr} {o : Obj} (e : h.get? b = some o) (n : H b = none) : (hidT h H).get? b = some o :=
  PySem.W.hideAll_get _ e fun hm => by
    have q : (H b).isSome = true := (List.mem_filter.mp hm).2
    rw [n] at q; simp at q
theorem of_hidT {h : Heap} {H : Hp} {b : Addr} {o : Obj} (e : (hidT h H).get? b = some o) : h.get? b = some o ∧ H b = none := by
  have e' : h.get? b = some o := PySem.W.of_hideAll (trk h H) e
  refine ⟨e', ?_⟩
  cases q : H b with
  | none => rfl
  | some x =>
    have hm : b ∈ trk h H := List.mem_filter.mpr ⟨List.mem_range.mpr (Heap.lt_size e'), by simp [q]⟩
    have z : (hidT h H).get? b = none := PySem.W.hideAll_none (trk h H) hm
    rw [z] at e; cases e
def allNews (g h : Heap) (L : Addr) : List (Addr × Obj) := (List.range h.objs.size).filterMap fun a => if a = L ∨ (g.get? a).isSome = true then none else (h.get? a).map fun o => (a, o)
def rest (g h : Heap) (L d : Addr) : List (Addr × Obj) := (allNews g h L).filter fun p => decide (p.1 ≠ d)
end L2
namespace L2
open PySem PySem.Spec PyProof.Rows
structure Mod (K : PySem.W.Frag) (mg : Str → Option Value) (base : Heap) : Prop where
  kin : K.In base
  glob : base.Ns mainGlobals mg
  blt : ∃ mb, base.Ns builtinsNs mb ∧ ∀ x : Str, x ≠ "__name__" → mb x = bootBuiltins x
  nolimit : base.NoLimit
structure Cx where
  prog : Program
  w : World
  K : PySem.W.Frag
  mg : Str → Option Value
  base : Heap
  A : Around
  N : List Str
  s_0 : Shared
  H_0 : Hp
  env : Env
  outer : List Env
  stack : List Env
  ex : List Addr
  fn : Str → Bool
  calm : Bool
  pn : List (Addr × Obj)
  xe : Value → Shared → Prop
def frs (l : List Env) : List Addr := l.filterMap (·.frame)
abbrev Cx.fs (X : Cx) : List Addr := frs X.outer
def Vis (sc : Scope) (x : Str) : Prop := sc.names.lookup x = some .local ∨ sc.names.lookup x = some .cell ∨ sc.names.lookup x = some .free
def Loc (sc : Scope) (x : Str) : Prop := sc.names.lookup x = some .local ∨ sc.names.lookup x = some .cell
def Look (env : Env) (h : Heap) (m : Str → Option Value) (x : Str) (u : Value) : Prop :=
  (env.kindOf x = some .local ∧ m x = some u) ∨ ((env.kindOf x = some .cell ∨ env.kindOf x = some .free) ∧ ∃ c, env.cells.lookup x = some c ∧ h.IsCell c (some u))
structure Cx.Ok (X : Cx) : Prop where
  mod : Mod X.K X.mg X.base
  kind : X.env.scope.kind = .function
  glob : X.env.globals = mainGlobals
  blt : X.env.builtins = builtinsNs
  above : X.s_0.heap.objs.size ≤ X.env.locals
  inj : ∀ x y c, X.env.cells.lookup x = some c → X.env.cells.lookup y = some c → x = y
  has : ∀ x, (X.env.kindOf x = some .cell ∨ X.env.kindOf x = some .free) → ∃ c, X.env.cells.lookup x = some c
  cab : ∀ x c, X.fn x = true → X.env.cells.lookup x = some c → X.s_0.heap.objs.size ≤ c
  hd : X.calm = true → X.A.handled = none
  frames : X.A.frames = some X.stack
  stk : X.stack = X.outer ∨ (X.stack = X.env :: X.outer ∧ X.env.frame = some X.env.locals)
  exf : ∀ b ∈ X.ex, b ≠ X.env.locals ∧ ∀ x c, X.env.cells.lookup x = some c → c ≠ b
  bs : ∀ b o, X.base.get? b = some o → X.s_0.heap.get? b = some o ∧ X.H_0 b = none
  bsz : X.base.objs.size ≤ X.s_0.heap.objs.size
  noex : ∀ b o, X.base.get? b = some o → b ∉ X.ex
  exfs : ∀ b ∈ X.ex, b ∉ X.fs
  funs : X.s_0.heap.FunFrames X.base X.outer
  frf : ∀ b ∈ X.fs, X.H_0 b = none
structure Inv (X : Cx) (pins : List (Addr × Obj)) (σ : List (Option V)) (H : Hp) (s : Shared) : Prop where
  ok : X.Ok
  os : s.os = X.s_0.os
  bare : AllBare s.gens
  base : Un X.fs X.ex X.H_0 H X.s_0.heap s.heap
  loc : ∃ m, s.heap.Ns X.env.locals m ∧ ∀ (i : Nat) (x : Str) (v : V), X.N[i]? = some x → σ[i]? = some (some v) → Vis X.env.scope x → ∃ u, RelV v u ∧ Look X.env s.heap m x u
  cell : ∀ x c, X.env.cells.lookup x = some c → ∃ v, s.heap.IsCell c v
  free : H X.env.locals = none
  freeC : ∀ x c, X.env.cells.lookup x = some c → H c = none
  pin : ∀ p ∈ X.pn ++ pins, s.heap.get? p.1 = some p.2 ∧ H p.1 = none ∧ p.1 ≠ X.env.locals ∧ p.1 ∉ X.fs ∧ ∀ v, p.2.data ≠ .cell v
  hok : HOk X.prog X.w H s.heap
  len : σ.length = X.N.length
section
variable {X : Cx} {pins : List (Addr × Obj)} {σ : List (Option V)} {H H' : Hp} {s : Shared} {h' : Heap}
theorem Cx.Ok.nofr (ok : X.Ok) {b : Addr} {o : Obj} (e : X.base.get? b = some o) : b ∉ X.fs := fun hb => by
  have := (ok.funs.mem hb).1
  rw [e] at this; cases this
theorem Inv.bs (I : Inv X pins σ H s) : ∀ b o, X.base.get? b = some o → s.heap.get? b = some o ∧ H b = none := fun b o e =>
  ⟨I.base.keep b o (I.ok.bs b o e).1 (I.ok.bs b o e).2 (I.ok.nofr e) (I.ok.noex b o e), I.base.free b o (I.ok.bs b o e).1 (I.ok.bs b o e).2 (I.ok.noex b o e)⟩
theorem Inv.bk (I : Inv X pins σ H s) : ∀ b o, X.base.get? b = some o → s.heap.get? b = some o := fun b o e => (I.bs b o e).1
theorem Inv.mod (I : Inv X pins σ H s) : Mod X.K X.mg X.base := I.ok.mod
theorem Inv.kIn (I : Inv X pins σ H s) : X.K.In s.heap := I.ok.mod.kin.keeps I.bk
theorem Inv.nolimit (I : Inv X pins σ H s) : s.heap.NoLimit := I.ok.mod.nolimit.keeps I.bk
theorem Inv.fr (I : Inv X pins σ H s) : ∃ m, Fr X.base X.env.locals s.heap m :=
  let ⟨m, hn, _⟩ := I.loc
  ⟨m, hn, I.bk, Nat.le_trans I.ok.bsz I.ok.above⟩
theorem Inv.lt (I : Inv X pins σ H s) : X.env.locals < s.heap.objs.size := let ⟨_, hn, _⟩ := I.loc; hn.lt
theorem Inv.sz (I : Inv X pins σ H s) : X.s_0.heap.objs.size ≤ s.heap.objs.size := Nat.le_trans I.ok.above (Nat.le_of_lt I.lt)
theorem Inv.nofs (I : Inv X pins σ H s) {a : Addr} (h : s.heap.objs.size ≤ a) : a ∉ X.fs := fun hb => by
  obtain ⟨_, o, ho, _⟩ := I.ok.funs.mem hb
  exact absurd (Nat.lt_of_lt_of_le (Heap.lt_size ho) (Nat.le_trans I.sz h)) (Nat.lt_irrefl _)
theorem Inv.cne (I : Inv X pins σ H s) : ∀ x c, X.env.cells.lookup x = some c → c ≠ X.env.locals := fun x c e z => by
  obtain ⟨v, o, ho, hd⟩ := I.cell x c e
  obtain ⟨m, ⟨o', es, ep, ho', hd', _⟩, _⟩ := I.loc
  rw [z, ho'] at ho; cases ho; rw [hd'] at hd; cases hd
theorem Inv.funs (I : Inv X pins σ H s) : s.heap.FunFrames X.base X.outer := by
  have all : ∀ (l : List Env), (∀ b ∈ frs l, b ∈ X.fs) → X.s_0.heap.FunFrames X.base l → s.heap.FunFrames X.base l := by
    intro l
    induction l with
    | nil => intro _ _; trivial
    | cons env r ih =>
      intro hs hl
      obtain ⟨hk, ⟨L, o, hf, hn, ho, hd⟩, hr⟩ := hl
      have hL : L ∈ X.fs := hs L (by unfold frs; rw [List.filterMap_cons, hf]; exact List.mem_cons_self)
      obtain ⟨sl, e⟩ := I.base.slot L o ho (I.ok.frf L hL) hL fun z => I.ok.exfs L z hL
      exact ⟨hk, ⟨L, _, hf, hn, e, hd⟩, ih (fun b hb => hs b (by unfold frs; rw [List.filterMap_cons, hf]; exact List.mem_cons_of_mem _ hb)) hr⟩
  exact all X.outer (fun _ hb => hb) I.ok.funs
theorem Inv.stack (I : Inv X pins σ H s) : s.heap.FunFrames X.base X.stack := by
  rcases I.ok.stk with e | ⟨e, hf⟩
  · rw [e]; exact I.funs
  · rw [e]
    obtain ⟨m, hn, _⟩ := I.loc
    refine .cons (by rw [I.ok.kind]; decide) hf hn ?_ I.funs
    exact Heap.get?_none_of_le (Nat.le_trans I.ok.bsz I.ok.above)
theorem Inv.stkSub (I : Inv X pins σ H s) : ∀ b ∈ frs X.stack, b ∈ X.env.locals :: X.fs := fun b hb => by
  rcases I.ok.stk with e | ⟨e, hf⟩
  · rw [e] at hb; exact List.mem_cons_of_mem _ hb
  · rw [e] at hb
    unfold frs at hb
    rw [List.filterMap_cons, hf] at hb
    exact hb
theorem Inv.stkFree (I : Inv X pins σ H s) : ∀ b ∈ frs X.stack, H b = none := fun b hb => by
  rcases List.mem_cons.mp (I.stkSub b hb) with e | hb
  · rw [e]; exact I.free
  · obtain ⟨_, o, ho, _⟩ := I.ok.funs.mem hb
    exact I.base.free b o ho (I.ok.frf b hb) fun z => I.ok.exfs b z hb
theorem Inv.step {g' : Array GenState} {t' : Nat} {d' : Drawn} {ch : List Addr} (I : Inv X pins σ H s)
    (hch : ∀ b ∈ ch, (b ∈ X.ex ∨ X.s_0.heap.objs.size ≤ b) ∧ b ≠ X.env.locals ∧ (∀ x c, X.env.cells.lookup x = some c → c ≠ b) ∧ ∀ p ∈ X.pn ++ pins, p.1 ≠ b)
    (keep : ∀ b o, b ≠ X.env.locals → b ∉ X.fs → b ∉ ch → s.heap.get? b = some o → H b = none → h'.get? b = some o)
    (slot : ∀ b o, b ≠ X.env.locals → b ∈ X.fs → b ∉ ch → s.heap.get? b = some o → H b = none → ∃ sl, h'.get? b = some { o with slots := sl }) (free : ∀ b o, b ∉ ch → s.heap.get? b = some o → H b = none → H' b = none)
    (there : ∀ b o, b ∉ ch → s.heap.get? b = some o → ∃ o', h'.get? b = some o')
    (tups : ∀ b xs, H b = some (.tup xs) → H' b = some (.tup xs)) (frzs : ∀ b o u, H b = some (.frz o u) → H' b = some (.frz o u)) (tbls : ∀ b ps, H b = some (.tbl ps) → ∃ more, H' b = some (.tbl (ps ++ more)))
    (ns : ∀ m, s.heap.Ns X.env.locals m → h'.Ns X.env.locals m) (hok : HOk X.prog X.w H' h') (hg : AllBare g') :
    Inv X pins σ H' { s with heap := h', gens := g', drawn := d', toks := t' } := by
  have neL : ∀ b o, X.s_0.heap.get? b = some o → b ≠ X.env.locals := fun b o e => Nat.ne_of_lt (Nat.lt_of_lt_of_le (Heap.lt_size e) I.ok.above)
  have neC : ∀ b o, X.s_0.heap.get? b = some o → b ∉ X.ex → b ∉ ch := fun b o e hx hb => by
    rcases (hch b hb).1 with z | z
    · exact hx z
    · exact absurd (Nat.lt_of_lt_of_le (Heap.lt_size e) z) (Nat.lt_irrefl _)
  have cellK : ∀ x c, X.env.cells.lookup x = some c → ∀ v, s.heap.IsCell c v → h'.IsCell c v := fun x c e v ⟨o, ho, hd⟩ => by
    have nch : c ∉ ch := fun z => (hch c z).2.2.1 x c e rfl
    by_cases hc : c ∈ X.fs
    · obtain ⟨sl, q⟩ := slot c o (I.cne x c e) hc nch ho (I.freeC x c e)
      exact ⟨_, q, hd⟩
    · exact ⟨o, keep c o (I.cne x c e) hc nch ho (I.freeC x c e), hd⟩
  refine ⟨I.ok, I.os, hg, ⟨fun b o e n hb hx => ?_, fun b o e n hb hx => ?_, fun b o e n hx => ?_, fun b o e hx => ?_, fun b xs e => tups b xs (I.base.tups b xs e), fun b o xs e => frzs b o xs (I.base.frzs b o xs e), fun b ps e => ?_⟩, ?_, fun x c e => ?_, ?_, fun x c e => ?_, fun p hp => ?_, hok, I.len⟩
  · exact keep b o (neL b o e) hb (neC b o e hx) (I.base.keep b o e n hb hx) (I.base.free b o e n hx)
  · obtain ⟨sl, e1⟩ := I.base.slot b o e n hb hx
    obtain ⟨sl', e2⟩ := slot b _ (neL b o e) hb (neC b o e hx) e1 (I.base.free b o e n hx)
    exact ⟨sl', e2⟩
  · obtain ⟨o', e1⟩ := I.base.there b o e hx
    exact free b o' (neC b o e hx) e1 (I.base.free b o e n hx)
  · obtain ⟨o', e1⟩ := I.base.there b o e hx
    exact there b o' (neC b o e hx) e1
  · obtain ⟨m1, e1⟩ := I.base.tbls b ps e
    obtain ⟨m2, e2⟩ := tbls b _ e1
    exact ⟨m1 ++ m2, by rw [e2, Array.append_assoc]⟩
  · obtain ⟨m, hn, hl⟩ := I.loc
    refine ⟨m, ns m hn, fun i x v e1 e2 e3 => ?_⟩
    obtain ⟨u, r, l⟩ := hl i x v e1 e2 e3
    refine ⟨u, r, ?_⟩
    rcases l with l | ⟨k, c, e, z⟩
    · exact .inl l
    · exact .inr ⟨k, c, e, cellK x c e _ z⟩
  · obtain ⟨v, z⟩ := I.cell x c e
    exact ⟨v, cellK x c e v z⟩
  · obtain ⟨m, ⟨o, _, _, ho, _⟩, _⟩ := I.loc
    exact free _ o (fun z => (hch _ z).2.1 rfl) ho I.free
  · obtain ⟨v, o, ho, hd⟩ := I.cell x c e
    exact free c o (fun z => (hch c z).2.2.1 x c e rfl) ho (I.freeC x c e)
  · obtain ⟨e, n, ne, nf, d⟩ := I.pin p hp
    have nch : p.1 ∉ ch := fun z => (hch p.1 z).2.2.2 p hp rfl
    exact ⟨keep p.1 p.2 ne nf nch e n, free p.1 p.2 nch e n, ne, nf, d⟩
theorem Inv.un {t' : Nat} (I : Inv X pins σ H s) (u : Un X.fs [] H H' s.heap h') (hok : HOk X.prog X.w H' h') : Inv X pins σ H' { s with heap := h', toks := t' } := by
  obtain ⟨m, ⟨o, es, ep, ho, r⟩, _⟩ := id I.loc
  obtain ⟨sl, hL⟩ := u.any ho I.free (by simp)
  exact I.step (g' := s.gens) (d' := s.drawn) (ch := []) (fun _ z => nomatch z) (fun b o _ hb _ e n => u.keep b o e n hb (by simp)) (fun b o _ hb _ e n => u.slot b o e n hb (by simp)) (fun b o _ e n => u.free b o e n (by simp)) (fun b o _ e => u.there b o e (by simp)) u.tups u.frzs u.tbls (fun m' hm => by
    obtain ⟨o', es', ep', ho', r'⟩ := hm
    rw [ho] at ho'; cases ho'
    exact ⟨_, es', ep', hL, r'⟩) hok I.bare
theorem Inv.call {g' : Array GenState} {t' : Nat} {d' : Drawn} {ch : List Addr} (I : Inv X pins σ H s) (u : Un (frs X.stack) ch H H' s.heap h') (hok : HOk X.prog X.w H' h') (hg : AllBare g')
    (hch : ∀ b ∈ ch, (b ∈ X.ex ∨ X.s_0.heap.objs.size ≤ b) ∧ b ≠ X.env.locals ∧ (∀ x c, X.env.cells.lookup x = some c → c ≠ b) ∧ ∀ p ∈ X.pn ++ pins, p.1 ≠ b) :
    Inv X pins σ H' { s with heap := h', gens := g', drawn := d', toks := t' } := by
  obtain ⟨m, ⟨o, es, ep, ho, r⟩, _⟩ := id I.loc
  obtain ⟨sl, hL⟩ := u.any ho I.free fun z => (hch _ z).2.1 rfl
  exact I.step (ch := ch) hch (fun b o hL hb hc e n => u.keep b o e n (fun z => (List.mem_cons.mp (I.stkSub b z)).elim hL hb) hc) (fun b o _ _ hc e n => u.any e n hc) (fun b o hc e n => u.free b o e n hc) (fun b o hc e => u.there b o e hc) u.tups u.frzs u.tbls (fun m' hm => by
    obtain ⟨o', es', ep', ho', r'⟩ := hm
    rw [ho] at ho'; cases ho'
    exact ⟨_, es', ep', hL, r'⟩) hok hg
theorem Inv.turned {t' : Nat} {it : Addr} (I : Inv X pins σ H s) (k : ∀ b o, b ≠ it → s.heap.get? b = some o → h'.get? b = some o) (hn : H it = none) (hL : it ≠ X.env.locals)
    (h1 : it ∈ X.ex ∨ X.s_0.heap.objs.size ≤ it) (h2 : ∀ x c, X.env.cells.lookup x = some c → c ≠ it) (h3 : ∀ p ∈ X.pn ++ pins, p.1 ≠ it) : Inv X pins σ H { s with heap := h', toks := t' } := by
  have nit : ∀ b u, H b = some u → b ≠ it := fun b u e z => by rw [z, hn] at e; cases e
  refine I.step (g' := s.gens) (d' := s.drawn) (ch := [it]) (fun b hb => ?_) (fun b o _ _ hc e _ => k b o (fun z => hc (by simp [z])) e) (fun b o _ _ hc e _ => ⟨o.slots, k b o (fun z => hc (by simp [z])) e⟩) (fun _ _ _ _ n => n)
    (fun b o hc e => ⟨o, k b o (fun z => hc (by simp [z])) e⟩) (fun _ _ e => e) (fun _ _ _ e => e) (fun b ps e => ⟨#[], by rw [e]; simp⟩) (fun m hm => ?_) (fun b u e => ?_) I.bare
  · have e : b = it := by simpa using hb
    subst e
    exact ⟨h1, hL, h2, h3⟩
  · obtain ⟨o, es, ep, ho, r⟩ := hm
    exact ⟨o, es, ep, k _ o (Ne.symm hL) ho, r⟩
  · refine (I.hok b u e).stay (fun c v hc q => k c v ?_ q) (fun _ q => q) fun _ _ q => q
    rcases hc with z | z
    · rw [z]; exact nit b u e
    · exact nit c _ z
theorem Inv.tok (I : Inv X pins σ H s) (t : Nat) : Inv X pins σ H { s with toks := t } := I.un (h' := s.heap) (t' := t) Un.refl I.hok
theorem Inv.kept {t' : Nat} (I : Inv X pins σ H s) (k : ∀ b u, s.heap.get? b = some u → h'.get? b = some u) : Inv X pins σ H { s with heap := h', toks := t' } := I.un (Un.kept k) (I.hok.kept k)
theorem Inv.laid {a : Addr} {o : HO} {t' : Nat} (I : Inv X pins σ H s) (k : ∀ b u, s.heap.get? b = some u → h'.get? b = some u) (hp : s.heap.objs.size ≤ a) (new : ObjOk X.prog X.w (upd H a o) h' a o) :
    Inv X pins σ (upd H a o) { s with heap := h', toks := t' } := I.un (Un.laid k hp (I.hok.fresh hp)) (I.hok.laid k hp new)
theorem Inv.write {x e : Addr} {o : HO} {t' : Nat} (I : Inv X pins σ H s) (mu : Mut (H x)) (he : e = x ∨ H e = some (.own x)) (k : ∀ b u, b ≠ e → s.heap.get? b = some u → h'.get? b = some u) (heo : ∃ u, h'.get? e = some u)
    (new : ObjOk X.prog X.w (upd H x o) h' x o) : Inv X pins σ (upd H x o) { s with heap := h', toks := t' } := I.un (Un.write mu he k heo) (I.hok.write mu he k heo new)
theorem Inv.pins_of {pins' : List (Addr × Obj)} (I : Inv X pins σ H s) (h : ∀ p ∈ pins', s.heap.get? p.1 = some p.2 ∧ H p.1 = none ∧ p.1 ≠ X.env.locals ∧ p.1 ∉ X.fs ∧ ∀ v, p.2.data ≠ .cell v) : Inv X pins' σ H s :=
  ⟨I.ok, I.os, I.bare, I.base, I.loc, I.cell, I.free, I.freeC, fun p hp => (List.mem_append.mp hp).elim (fun z => I.pin p (List.mem_append_left _ z)) (h p), I.hok, I.len⟩
theorem nodup_ix {N : List Str} (hN : N.Nodup) {i j : Nat} {x : Str} (a : N[i]? = some x) (b : N[j]? = some x) : i = j := by
  obtain ⟨h1, e1⟩ := List.getElem?_eq_some_iff.mp a
  obtain ⟨h2, e2⟩ := List.getElem?_eq_some_iff.mp b
  exact (List.getElem_inj hN).mp (e1.trans e2.symm)
theorem store_ok2 {M : Model} {A : Around} {E : Value → Shared → Prop} {i : Nat} {x : Str} {v : V} {u : Value} {Q : Unit → Shared → Prop} (I : Inv X pins σ H s) (hN : X.N.Nodup) (hi : X.N[i]? = some x) (hx : Loc X.env.scope x) (r : RelV v u)
    (h : ∀ s', Inv X pins (σ.set i (some v)) H s' → (∃ a, Heap.SameBut a s.heap s'.heap ∧ (a = X.env.locals ∨ X.env.cells.lookup x = some a)) → Q () s') (hf : X.fn x = true ∨ X.env.scope.names.lookup x = some .local := by first | exact .inl rfl | exact .inr rfl | assumption) : wpAny M A (storeName X.env x u) Q E s := by
  obtain ⟨m, hn, hl⟩ := id I.loc
  have hcls : (X.env.scope.kind == .class || (X.env.scope.kind == .module && X.env.locals != X.env.globals)) = false := by rw [I.ok.kind]; rfl
  have hiσ : i < σ.length := by rw [I.len]; exact (List.getElem?_eq_some_iff.mp hi).1
  have cne := I.cne
  have tracked : ∀ {a : Addr} {h' : Heap}, (∃ o, s.heap.get? a = some o ∧ H a = none) → Heap.SameBut a s.heap h' → HOk X.prog X.w H h' := fun {a h'} ha hs b ob e => by
    obtain ⟨_, _, hfree⟩ := ha
    refine (I.hok b ob e).stay (fun c w' hc q => (hs.2 c ?_).trans q) (fun _ q => q) fun _ _ q => q
    rintro rfl
    rcases hc with rfl | hc
    · rw [hfree] at e; cases e
    · rw [hfree] at hc; cases hc
  rcases hx with hk | hk
  · refine wpAny_storeName_local hk hn (fun h' hn' hs => ?_) hcls
    obtain ⟨oL, _, _, hoL, _⟩ := id hn
    refine h _ ⟨I.ok, I.os, I.bare, ⟨fun b o e n hb hx => ?_, fun b o e n hb hx => ?_, I.base.free, fun b o e hx => ?_, I.base.tups, I.base.frzs, I.base.tbls⟩, ⟨_, hn', fun j y v' e1 e2 e3 => ?_⟩, fun y c e => ?_, I.free, I.freeC, fun p hp => ?_, tracked ⟨oL, hoL, I.free⟩ hs, by simpa using I.len⟩ ⟨_, hs, .inl rfl⟩
    · exact (hs.2 b (Nat.ne_of_lt (Nat.lt_of_lt_of_le (Heap.lt_size e) I.ok.above))).trans (I.base.keep b o e n hb hx)
    · obtain ⟨sl, e1⟩ := I.base.slot b o e n hb hx
      exact ⟨sl, (hs.2 b (Nat.ne_of_lt (Nat.lt_of_lt_of_le (Heap.lt_size e) I.ok.above))).trans e1⟩
    · obtain ⟨o', e1⟩ := I.base.there b o e hx
      exact ⟨o', (hs.2 b (Nat.ne_of_lt (Nat.lt_of_lt_of_le (Heap.lt_size e) I.ok.above))).trans e1⟩
    · by_cases hj : j = i
      · subst hj
        rw [hi] at e1; cases e1
        rw [List.getElem?_set_self hiσ] at e2
        cases e2
        exact ⟨u, r, .inl ⟨hk, by simp⟩⟩
      · rw [List.getElem?_set_ne (Ne.symm hj)] at e2
        obtain ⟨u', r', q⟩ := hl j y v' e1 e2 e3
        refine ⟨u', r', ?_⟩
        rcases q with ⟨k, e⟩ | ⟨k, c, e, z⟩
        · refine .inl ⟨k, ?_⟩
          have : y ≠ x := fun e => hj (nodup_ix hN e1 (e ▸ hi))
          simp [this, e]
        · exact .inr ⟨k, c, e, z.sameBut hs (cne y c e)⟩
    · obtain ⟨w', z⟩ := I.cell y c e
      exact ⟨w', z.sameBut hs (cne y c e)⟩
    · obtain ⟨e, n, ne, nf, d⟩ := I.pin p hp
      exact ⟨(hs.2 p.1 ne).trans e, n, ne, nf, d⟩
  · have hfn : X.fn x = true := by
      rcases hf with z | z
      · exact z
      · rw [z] at hk; cases hk
    obtain ⟨c, hc⟩ := I.ok.has x (.inl hk)
    obtain ⟨w', z⟩ := I.cell x c hc
    refine wpAny_storeName_cell I.ok.kind hk hc z (fun h' hc' hs => ?_)
    obtain ⟨oc, hoc, hocd⟩ := id z
    refine h { s with heap := h' } ⟨I.ok, I.os, I.bare, ⟨fun b o e n hb hx => ?_, fun b o e n hb hx => ?_, I.base.free, fun b o e hx => ?_, I.base.tups, I.base.frzs, I.base.tbls⟩, ⟨m, hn.sameBut hs (Ne.symm (cne x c hc)), fun j y v' e1 e2 e3 => ?_⟩, fun y c' e => ?_, I.free, I.freeC, fun p hp => ?_, tracked ⟨oc, hoc, I.freeC x c hc⟩ hs, by simpa using I.len⟩ ⟨c, hs, .inr hc⟩
    · exact (hs.2 b (Nat.ne_of_lt (Nat.lt_of_lt_of_le (Heap.lt_size e) (I.ok.cab x c hfn hc)))).trans (I.base.keep b o e n hb hx)
    · obtain ⟨sl, e1⟩ := I.base.slot b o e n hb hx
      exact ⟨sl, (hs.2 b (Nat.ne_of_lt (Nat.lt_of_lt_of_le (Heap.lt_size e) (I.ok.cab x c hfn hc)))).trans e1⟩
    · obtain ⟨o', e1⟩ := I.base.there b o e hx
      exact ⟨o', (hs.2 b (Nat.ne_of_lt (Nat.lt_of_lt_of_le (Heap.lt_size e) (I.ok.cab x c hfn hc)))).trans e1⟩
    · by_cases hj : j = i
      · subst hj
        rw [hi] at e1; cases e1
        rw [List.getElem?_set_self hiσ] at e2
        cases e2
        exact ⟨u, r, .inr ⟨.inl hk, c, hc, hc'⟩⟩
      · rw [List.getElem?_set_ne (Ne.symm hj)] at e2
        obtain ⟨u', r', q⟩ := hl j y v' e1 e2 e3
        refine ⟨u', r', ?_⟩
        rcases q with q | ⟨k, c', e, z'⟩
        · exact .inl q
        · refine .inr ⟨k, c', e, z'.sameBut hs ?_⟩
          rintro rfl
          exact hj (nodup_ix hN e1 (I.ok.inj _ _ _ e hc ▸ hi))
    · by_cases hcc : c' = c
      · subst hcc; exact ⟨_, hc'⟩
      · obtain ⟨w2, z2⟩ := I.cell y c' e
        exact ⟨w2, z2.sameBut hs hcc⟩
    · obtain ⟨e, n, ne, nf, d⟩ := I.pin p hp
      refine ⟨(hs.2 p.1 ?_).trans e, n, ne, nf, d⟩
      intro q
      rw [q, hoc] at e
      have q' : oc = p.2 := Option.some.inj e
      exact d w' (by rw [← q']; exact hocd)
theorem store_ok {M : Model} {A : Around} {E : Value → Shared → Prop} {i : Nat} {x : Str} {v : V} {u : Value} {Q : Unit → Shared → Prop} (I : Inv X pins σ H s) (hN : X.N.Nodup) (hi : X.N[i]? = some x) (hx : Loc X.env.scope x) (r : RelV v u)
    (h : ∀ s', Inv X pins (σ.set i (some v)) H s' → Q () s') (hf : X.fn x = true ∨ X.env.scope.names.lookup x = some .local := by first | exact .inl rfl | exact .inr rfl | assumption) : wpAny M A (storeName X.env x u) Q E s :=
  store_ok2 I hN hi hx r (fun s' I' _ => h s' I') hf
theorem Inv.call' {s' : Shared} {ch : List Addr} (I : Inv X pins σ H s) (ho : s'.os = s.os) (u : Un (frs X.stack) ch H H' s.heap s'.heap) (hok : HOk X.prog X.w H' s'.heap) (hg : AllBare s'.gens)
    (hch : ∀ b ∈ ch, (b ∈ X.ex ∨ X.s_0.heap.objs.size ≤ b) ∧ b ≠ X.env.locals ∧ (∀ x c, X.env.cells.lookup x = some c → c ≠ b) ∧ ∀ p ∈ X.pn ++ pins, p.1 ≠ b) : Inv X pins σ H' s' := by
  obtain ⟨h', g', d', t', o'⟩ := s'
  have e : o' = s.os := ho
  subst e
  exact I.call (g' := g') (t' := t') (d' := d') u hok hg hch
end
abbrev XK := Value → Option Addr → Hp → Prop
abbrev St := List (Option V)
abbrev VK := V → Hp → Prop
abbrev TE := St → Hp → VK → Prop
abbrev TT := St → Hp → (Bool → Hp → Prop) → Prop
abbrev TA := St → Hp → (List V → Hp → Prop) → Prop
structure Ends where
  nx : St → Hp → Prop
  rt : VK
  bk : St → Hp → Prop := fun _ _ => False
  ct : St → Hp → Prop := fun _ _ => False
abbrev TS := Ends → St → Hp → Prop
def EP (X : Cx) (pins : List (Addr × Obj)) (σ : St) (Q : VK) (u : Value) (s' : Shared) : Prop := ∃ v H', Inv X pins σ H' s' ∧ RelV v u ∧ Q v H'
def TP (X : Cx) (pins : List (Addr × Obj)) (σ : St) (Q : Bool → Hp → Prop) (b : Bool) (s' : Shared) : Prop := ∃ H', Inv X pins σ H' s' ∧ Q b H'
def AP (X : Cx) (pins : List (Addr × Obj)) (σ : St) (Q : List V → Hp → Prop) (us : List Value) (s' : Shared) : Prop := ∃ vs H', Inv X pins σ H' s' ∧ Vals vs us ∧ Q vs H'
def SP (X : Cx) (pins : List (Addr × Obj)) (D : Ends) (f : Flow) (s' : Shared) : Prop :=
  match f with
  | .next => ∃ σ' H', Inv X pins σ' H' s' ∧ D.nx σ' H'
  | .brk => ∃ σ' H', Inv X pins σ' H' s' ∧ D.bk σ' H'
  | .cont => ∃ σ' H', Inv X pins σ' H' s' ∧ D.ct σ' H'
  | .ret u => ∃ v σ' H', Inv X pins σ' H' s' ∧ RelV v u ∧ D.rt v H'
def PE (X : Cx) (e : Expr) (t : TE) : Prop :=
  ∀ (pins : List (Addr × Obj)) (s : Shared) (σ : St) (H : Hp) (Q : VK), Inv X pins σ H s → t σ H Q → wpAny (model X.prog X.w) X.A (eval e X.env) (EP X pins σ Q) X.xe s
def PT (X : Cx) (e : Expr) (t : TT) : Prop :=
  ∀ (pins : List (Addr × Obj)) (s : Shared) (σ : St) (H : Hp) (Q : Bool → Hp → Prop), Inv X pins σ H s → t σ H Q → wpAny (model X.prog X.w) X.A (isTrue e X.env (eval e X.env)) (TP X pins σ Q) X.xe s
def PW (X : Cx) (e : Expr) (t : TT) : Prop :=
  ∀ (whole : Sem Value) (pins : List (Addr × Obj)) (s : Shared) (σ : St) (H : Hp) (Q : Bool → Hp → Prop), Inv X pins σ H s → t σ H Q → wpAny (model X.prog X.w) X.A (isTrue e X.env whole) (TP X pins σ Q) X.xe s
theorem PW.pt {X : Cx} {e : Expr} {t : TT} (h : PW X e t) : PT X e t := h _
def PA (X : Cx) (es : List Expr) (t : TA) : Prop :=
  ∀ (pos : Pos) (pins : List (Addr × Obj)) (s : Shared) (σ : St) (H : Hp) (Q : List V → Hp → Prop), Inv X pins σ H s → t σ H Q → wpAny (model X.prog X.w) X.A (spliced (backTo pos (starEach es X.env))) (AP X pins σ Q) X.xe s
def PS (X : Cx) (st : Stmt) (t : TS) : Prop :=
  ∀ (pins : List (Addr × Obj)) (s : Shared) (σ : St) (H : Hp) (D : Ends), Inv X pins σ H s → t D σ H → wpAny (model X.prog X.w) X.A (exec st X.env) (SP X pins D) X.xe s
def PSs (X : Cx) (st : List Stmt) (t : TS) : Prop :=
  ∀ (pins : List (Addr × Obj)) (s : Shared) (σ : St) (H : Hp) (D : Ends), Inv X pins σ H s → t D σ H → wpAny (model X.prog X.w) X.A (execs st X.env) (SP X pins D) X.xe s
theorem thn {α : Type} {t : Sem α} {Q Q' : α → Shared → Prop} {M : Model} {A : Around} {E : Value → Shared → Prop} {s : Shared} (h : wpAny M A t Q E s) (hQ : ∀ a s, Q a s → Q' a s) : wpAny M A t Q' E s := wpAny_mono h hQ fun _ _ x => x
end L2
namespace L2
open PySem PySem.Spec PyProof.Rows
section
variable {X : Cx}
def tVar (i : Nat) : TE := fun σ H Q => ∃ v, σ[i]? = some (some v) ∧ Q v H
def tC (v : V) : TE := fun _ H Q => Q v H
theorem pe_var {i : Nat} {x : Str} {pos : Pos} (hN : X.N[i]? = some x) (hv : Vis X.env.scope x) (hd : (x == ("__debug__" : Str)) = false := by decide) (hcd : (x == ("__classdict__" : Str)) = false := by decide) : PE X (.Name x pos) (tVar i) := by
  intro pins s σ H Q I h
  obtain ⟨v, e, h⟩ := h
  obtain ⟨m, hn, hl⟩ := I.loc
  obtain ⟨u, r, l⟩ := hl i x v hN e hv
  have fin : EP X pins σ Q u s := ⟨v, H, I, r, h⟩
  rcases l with ⟨hk, hm⟩ | ⟨hk, c, hc, hcell⟩
  · exact wpAny_Name (wpAny_loadName_local I.ok.kind hk hn hm fin) hd
  · rcases hk with hk | hk
    · exact wpAny_Name (wpAny_loadName_cell I.ok.kind hk hc hcell fin) hd
    · exact wpAny_Name (wpAny_loadName_free I.ok.kind hk hc hcell fin hcd) hd
theorem pe_int {i j pos} : PE X (.Constant (.int i) j pos) (tC (.int i)) := fun _ _ _ H _ I h => wpAny_Constant_int ⟨.int i, H, I.tok _, ⟨_, rfl⟩, h⟩
theorem pe_bl {b j pos} : PE X (.Constant (.bool b) j pos) (tC (.bl b)) := fun _ _ _ H _ I h => Constant_bool ⟨.bl b, H, I, rfl, h⟩
theorem pe_non {j pos} : PE X (.Constant .none j pos) (tC .non) := fun _ _ _ H _ I h => Constant_none ⟨.non, H, I, rfl, h⟩
theorem pe_str {x j pos} : PE X (.Constant (.str x) j pos) (tC (.str x)) := fun _ _ _ H _ I h => Calls.Constant_str ⟨.str x, H, I.tok _, ⟨_, rfl⟩, h⟩
def Gl (X : Cx) (x : Str) : Prop := X.env.kindOf x = some .globalImplicit
theorem ld_glob {E : Value → Shared → Prop} {pins : List (Addr × Obj)} {s : Shared} {σ : St} {H : Hp} {x : Str} {u : Value} {pos : Pos} {Q : Value → Shared → Prop} (I : Inv X pins σ H s) (hg : Gl X x) (hm : X.mg x = some u) (h : Q u s)
    (hd : (x == ("__debug__" : Str)) = false := by decide) : wpAny (model X.prog X.w) X.A (eval (.Name x pos) X.env) Q E s :=
  Calls.Name_function_global I.ok.kind hg (Calls.loadGlobal_global (by rw [I.ok.glob]; exact I.mod.glob.keeps I.bk) hm h) hd
theorem ld_blt {E : Value → Shared → Prop} {pins : List (Addr × Obj)} {s : Shared} {σ : St} {H : Hp} {x : Str} {u : Value} {pos : Pos} {Q : Value → Shared → Prop} (I : Inv X pins σ H s) (hg : Gl X x) (hm : X.mg x = none) (hv : bootBuiltins x = some u) (h : Q u s)
    (hn : x ≠ "__name__" := by decide) (hd : (x == ("__debug__" : Str)) = false := by decide) : wpAny (model X.prog X.w) X.A (eval (.Name x pos) X.env) Q E s := by
  obtain ⟨mb, h1, h2⟩ := I.mod.blt
  exact Calls.Name_function_global I.ok.kind hg (Calls.loadGlobal_builtin (by rw [I.ok.glob]; exact I.mod.glob.keeps I.bk) hm (by rw [I.ok.blt]; exact h1.keeps I.bk) ((h2 x hn).trans hv) h) hd
theorem pe_glob {x : Str} {v : V} {u : Value} {pos : Pos} (hg : Gl X x) (hm : X.mg x = some u) (r : RelV v u) (hd : (x == ("__debug__" : Str)) = false := by decide) : PE X (.Name x pos) (tC v) :=
  fun _ _ _ H _ I h => ld_glob I hg hm ⟨v, H, I, r, h⟩ hd
theorem pe_bltn {x : Str} {v : V} {u : Value} {pos : Pos} (hg : Gl X x) (hm : X.mg x = none) (hv : bootBuiltins x = some u) (r : RelV v u) (hn : x ≠ "__name__" := by decide) (hd : (x == ("__debug__" : Str)) = false := by decide) : PE X (.Name x pos) (tC v) :=
  fun _ _ _ H _ I h => ld_blt I hg hm hv ⟨v, H, I, r, h⟩ hn hd
variable {a b : Expr} {ta tb : TE} {pos : Pos}
def tB (t : TE) : TT := fun σ H Q => t σ H fun x H1 => ∃ c, x = .bl c ∧ Q c H1
theorem pt_val {e : Expr} {t : TE} (h : PE X e t) (he : ∀ whole, isTrue e X.env whole = (do let v ← whole; standAt e.pos; holding [v] (truthy v)) := by intro _; rfl) : PT X e (tB t) := by
  intro pins s σ H Q I hw
  refine isTrue_plain (thn (h pins s σ H _ I hw) fun v s1 ⟨x, H1, I1, r1, q1⟩ => ?_) (he _)
  obtain ⟨d, rfl, q⟩ := q1
  cases r1
  exact wpAny_truthy_bool ⟨H1, I1, q⟩
variable {tA tB' : TT} {rest : List Expr}
def tAnd (t u : TT) : TT := fun σ H Q => t σ H fun c H1 => if c = true then u σ H1 Q else Q false H1
def tOr (t u : TT) : TT := fun σ H Q => t σ H fun c H1 => if c = true then Q true H1 else u σ H1 Q
def tNot (t : TT) : TT := fun σ H Q => t σ H fun c H1 => Q (!c) H1
theorem pw_and1 (ha : PT X a tA) : PW X (.BoolOp .And [a] pos) tA := by
  intro wh pins s σ H Q I h
  refine isTrue_and (thn (ha pins s σ H Q I h) fun c s1 e => ?_)
  cases c with
  | true => exact isTrue_and_nil e
  | false => exact e
theorem pw_or1 (ha : PT X a tA) : PW X (.BoolOp .Or [a] pos) tA := by
  intro wh pins s σ H Q I h
  refine isTrue_or (thn (ha pins s σ H Q I h) fun c s1 e => ?_)
  cases c with
  | false => exact isTrue_or_nil e
  | true => exact e
theorem pw_and (ha : PT X a tA) (hb : PW X (.BoolOp .And (b :: rest) pos) tB') : PW X (.BoolOp .And (a :: b :: rest) pos) (tAnd tA tB') := by
  intro wh pins s σ H Q I h
  refine isTrue_and (thn (ha pins s σ H _ I h) fun c s1 ⟨H1, I1, q1⟩ => ?_)
  cases c with
  | true => exact hb wh pins s1 σ H1 Q I1 q1
  | false => exact ⟨H1, I1, q1⟩
theorem pw_or (ha : PT X a tA) (hb : PW X (.BoolOp .Or (b :: rest) pos) tB') : PW X (.BoolOp .Or (a :: b :: rest) pos) (tOr tA tB') := by
  intro wh pins s σ H Q I h
  refine isTrue_or (thn (ha pins s σ H _ I h) fun c s1 ⟨H1, I1, q1⟩ => ?_)
  cases c with
  | true => exact ⟨H1, I1, q1⟩
  | false => exact hb wh pins s1 σ H1 Q I1 q1
theorem pt_not (ha : PT X a tA) : PT X (.UnaryOp .Not a pos) (tNot tA) := by
  intro pins s σ H Q I h
  exact isTrue_not (ha pins s σ H (fun c H1 => Q (!c) H1) I h)
def tAndV (ta tb : TE) : TE := fun σ H Q => ta σ H fun x H1 => ∃ c, x = .bl c ∧ if c = true then tb σ H1 Q else Q (.bl false) H1
def tNotV (ta : TE) : TE := fun σ H Q => ta σ H fun x H1 => ∃ c, x = .bl c ∧ Q (.bl (!c)) H1
theorem pe_one {op} {t : TE} (h : PE X a t) : PE X (.BoolOp op [a] pos) t := fun pins s σ H Q I hw => BoolOp_one (h pins s σ H Q I hw)
theorem pe_and (ha : PE X a ta) (hb : PE X (.BoolOp .And (b :: rest) pos) tb) : PE X (.BoolOp .And (a :: b :: rest) pos) (tAndV ta tb) := by
  intro pins s σ H Q I h
  refine BoolOp_and (thn (ha pins s σ H _ I h) fun v s1 ⟨x, H1, I1, r1, q1⟩ => ?_)
  obtain ⟨c, rfl, q1⟩ := q1
  cases r1
  refine wpAny_truthy_bool ?_
  cases c with
  | true => exact hb pins s1 σ H1 Q I1 q1
  | false => exact ⟨.bl false, H1, I1, rfl, q1⟩
theorem pe_not (ha : PE X a ta) : PE X (.UnaryOp .Not a pos) (tNotV ta) := by
  intro pins s σ H Q I h
  refine UnaryOp_ (thn (ha pins s σ H _ I h) fun v s1 ⟨x, H1, I1, r1, q1⟩ => ?_)
  obtain ⟨c, rfl, q1⟩ := q1
  cases r1
  exact not_of (wpAny_truthy_bool ⟨.bl (!c), H1, I1, rfl, q1⟩)
end
end L2
namespace L2
open PySem PySem.Spec PyProof.Rows
def SqL (K : PySem.W.Frag) (H : Hp) (a : Addr) (xs : List V) : Prop :=
  Rd H a (.lst xs) ∨
    ∃ (o : Obj) (its : Array Value) (n : Nat), K.lookup a = some o ∧ o.cls = .type "list" ∧ o.dict = none ∧ o.data = .seq its n ∧ its.size ≤ sizeLine ∧ Vals xs its.toList
def SqT (K : PySem.W.Frag) (H : Hp) (a : Addr) (xs : List V) : Prop :=
  Rd H a (.tup xs) ∨
    ∃ (o : Obj) (its : Array Value) (n : Nat), K.lookup a = some o ∧ o.cls = .type "tuple" ∧ o.dict = none ∧ o.data = .seq its n ∧ its.size ≤ sizeLine ∧ Vals xs its.toList
def absV : Value → Option V
  | .none => some .non
  | .bool b => some (.bl b)
  | .int i _ => some (.int i)
  | .str x _ => some (.str x)
  | .bytes b _ => some (.byt b)
  | .float b _ => some (.flt b)
  | .ref a => some (.ref a)
  | .type n => some (.ty n)
  | _ => none
theorem RelV.abs {x : V} {u : Value} (r : RelV x u) : absV u = some x := by
  cases x with
  | non => cases r; rfl
  | bl _ => cases r; rfl
  | int _ => obtain ⟨t, rfl⟩ := r; rfl
  | str _ => obtain ⟨t, rfl⟩ := r; rfl
  | byt _ => obtain ⟨t, rfl⟩ := r; rfl
  | flt _ => obtain ⟨t, rfl⟩ := r; rfl
  | ref _ => cases r; rfl
  | ty _ => cases r; rfl
theorem RelV.inj {x y : V} {u : Value} (r : RelV x u) (q : RelV y u) : x = y := Option.some.inj (r.abs.symm.trans q.abs)
theorem Vals.inj : ∀ {xs ys : List V} {us : List Value}, Vals xs us → Vals ys us → xs = ys
  | _, _, _, .nil, .nil => rfl
  | _, _, _, .cons r t, .cons r' t' => by rw [r.inj r', Vals.inj t t']
section
variable {X : Cx} {pins : List (Addr × Obj)} {σ : St} {H : Hp} {s : Shared} {a : Addr} {xs ys : List V}
theorem SqL.of {K : PySem.W.Frag} (h : H a = some (.lst xs)) : SqL K H a xs := .inl (.inl h)
theorem SqT.of {K : PySem.W.Frag} (h : H a = some (.tup xs)) : SqT K H a xs := .inl (.inl h)
theorem Inv.list (I : Inv X pins σ H s) (h : SqL X.K H a xs) : ∃ its : List Value, Vals xs its ∧ PlainL s.heap a its.toArray ∧ xs.length ≤ sizeLine := by
  rcases h with h | ⟨o, its, n, hk, hc, hd, hs, hz, r⟩
  · obtain ⟨z, its, n, r, e⟩ := h.ok I.hok
    exact ⟨its, r, ⟨_, n, e, rfl, rfl, rfl⟩, z⟩
  · refine ⟨its.toList, r, ⟨o, n, I.kIn a o hk, hc, hd, by simpa using hs⟩, ?_⟩
    have e := r.length
    simp only [Array.length_toList] at e
    omega
theorem Inv.tuple (I : Inv X pins σ H s) (h : SqT X.K H a xs) : ∃ its : List Value, Vals xs its ∧ IsTup s.heap a its.toArray ∧ xs.length ≤ sizeLine := by
  rcases h with h | ⟨o, its, n, hk, hc, _, hs, hz, r⟩
  · obtain ⟨z, its, r, p, _⟩ := h.ok I.hok
    exact ⟨its, r, p, z⟩
  · refine ⟨its.toList, r, ⟨o, I.kIn a o hk, hc, n, by simpa using hs⟩, ?_⟩
    have e := r.length
    simp only [Array.length_toList] at e
    omega
theorem Inv.list_inj (I : Inv X pins σ H s) (h : SqL X.K H a xs) (h' : SqL X.K H a ys) : xs = ys := by
  obtain ⟨its, r, ⟨o, n, e, _, _, d⟩, _⟩ := I.list h
  obtain ⟨its', r', ⟨o', n', e', _, _, d'⟩, _⟩ := I.list h'
  rw [e] at e'; cases e'
  rw [d] at d'
  injection d' with d1 _
  have : its = its' := by simpa using congrArg Array.toList d1
  subst this
  exact r.inj r'
theorem Inv.tuple_inj (I : Inv X pins σ H s) (h : SqT X.K H a xs) (h' : SqT X.K H a ys) : xs = ys := by
  obtain ⟨its, r, ⟨o, e, _, n, d⟩, _⟩ := I.tuple h
  obtain ⟨its', r', ⟨o', e', _, n', d'⟩, _⟩ := I.tuple h'
  rw [e] at e'; cases e'
  rw [d] at d'
  injection d' with d1 _
  have : its = its' := by simpa using congrArg Array.toList d1
  subst this
  exact r.inj r'
end
abbrev Cx.wish (X : Cx) (E : Value → Shared → Prop) : Cx := { X with xe := E }
abbrev Cx.nox (X : Cx) : Cx := X.wish fun _ _ => False
theorem Cx.Ok.wish {X : Cx} (ok : X.Ok) (E : Value → Shared → Prop) : (X.wish E).Ok :=
  ⟨ok.mod, ok.kind, ok.glob, ok.blt, ok.above, ok.inj, ok.has, ok.cab, ok.hd, ok.frames, ok.stk, ok.exf, ok.bs, ok.bsz, ok.noex, ok.exfs, ok.funs, ok.frf⟩
theorem Cx.Ok.unwish {X : Cx} {E : Value → Shared → Prop} (ok : (X.wish E).Ok) : X.Ok :=
  ⟨ok.mod, ok.kind, ok.glob, ok.blt, ok.above, ok.inj, ok.has, ok.cab, ok.hd, ok.frames, ok.stk, ok.exf, ok.bs, ok.bsz, ok.noex, ok.exfs, ok.funs, ok.frf⟩
section
variable {X : Cx} {pins : List (Addr × Obj)} {σ : St} {H : Hp} {s : Shared} {E : Value → Shared → Prop}
theorem Inv.wish (I : Inv X pins σ H s) (E : Value → Shared → Prop) : Inv (X.wish E) pins σ H s := ⟨I.ok.wish E, I.os, I.bare, I.base, I.loc, I.cell, I.free, I.freeC, I.pin, I.hok, I.len⟩
theorem Inv.unwish (I : Inv (X.wish E) pins σ H s) : Inv X pins σ H s := ⟨I.ok.unwish, I.os, I.bare, I.base, I.loc, I.cell, I.free, I.freeC, I.pin, I.hok, I.len⟩
theorem SP.unwish {D : Ends} {f : Flow} {s' : Shared} (h : SP (X.wish E) pins D f s') : SP X pins D f s' := by
  cases f with
  | next => obtain ⟨σ', H', I, q⟩ := h; exact ⟨σ', H', I.unwish, q⟩
  | brk => obtain ⟨σ', H', I, q⟩ := h; exact ⟨σ', H', I.unwish, q⟩
  | cont => obtain ⟨σ', H', I, q⟩ := h; exact ⟨σ', H', I.unwish, q⟩
  | ret u => obtain ⟨v, σ', H', I, r, q⟩ := h; exact ⟨v, σ', H', I.unwish, r, q⟩
theorem PE.nox {e : Expr} {t : TE} (h : PE X.nox e t) : PE X e t := fun pins s σ H Q I hw =>
  wpAny_mono (h pins s σ H Q (I.wish _) hw) (fun _ _ ⟨v, H', I', r, q⟩ => ⟨v, H', I'.unwish, r, q⟩) fun _ _ z => False.elim z
theorem PT.nox {e : Expr} {t : TT} (h : PT X.nox e t) : PT X e t := fun pins s σ H Q I hw =>
  wpAny_mono (h pins s σ H Q (I.wish _) hw) (fun _ _ ⟨H', I', q⟩ => ⟨H', I'.unwish, q⟩) fun _ _ z => False.elim z
theorem PSs.nox {st : List Stmt} {t : TS} (h : PSs X.nox st t) : PSs X st t := fun pins s σ H D I hw =>
  wpAny_mono (h pins s σ H D (I.wish _) hw) (fun _ _ q => q.unwish) fun _ _ z => False.elim z
end
section
variable {X : Cx} {st : Stmt} {rest : List Stmt} {t u : TS} {e : Expr} {te : TE} {pos : Pos}
def tNext : TS := fun D σ H => D.nx σ H
def tSeq (t u : TS) : TS := fun D σ H => t { D with nx := u D } σ H
theorem pss_nil : PSs X [] tNext := fun _ _ σ H _ I h => wpAny_execs_nil ⟨σ, H, I, h⟩
theorem pss_cons (h1 : PS X st t) (h2 : PSs X rest u) : PSs X (st :: rest) (tSeq t u) := by
  intro pins s σ H D I h
  refine wpAny_execs_cons (thn (h1 pins s σ H { D with nx := u D } I h) fun f s1 q => ?_)
  cases f with
  | next =>
    obtain ⟨σ', H', I', q⟩ := q
    exact h2 pins s1 σ' H' D I' q
  | ret v => exact q
  | brk => exact q
  | cont => exact q
theorem pss_one (h1 : PS X st t) : PSs X [st] t := by
  intro pins s σ H D I h
  refine wpAny_execs_cons (thn (h1 pins s σ H D I h) fun f s1 q => ?_)
  cases f with
  | next => exact wpAny_execs_nil q
  | ret v => exact q
  | brk => exact q
  | cont => exact q
theorem Inv.quiet {pins : List (Addr × Obj)} {σ : St} {H : Hp} {s : Shared} (I : Inv X pins σ H s) : interactive X.env = false := by simp [interactive, I.ok.kind]
def tDrop (te : TE) : TS := fun D σ H => te σ H fun _ H1 => D.nx σ H1
theorem ps_expr (he : PE X e te) (hs : swapsWith e none pos.line X.env = pure false := by rfl) : PS X (.Expr e pos) (tDrop te) := by
  intro pins s σ H D I h
  exact wpAny_Expr_any (thn (he pins s σ H _ I h) fun v s1 ⟨x, H1, I1, r1, q1⟩ => ⟨σ, H1, I1, q1⟩) I.quiet hs
def tRet (te : TE) : TS := fun D σ H => te σ H D.rt
theorem ps_ret (he : PE X e te) : PS X (.Return (some e) pos) (tRet te) := by
  intro pins s σ H D I h
  exact wpAny_Return_some (thn (he pins s σ H _ I h) fun v s1 ⟨x, H1, I1, r1, q1⟩ => ⟨x, σ, H1, I1, r1, q1⟩)
def tIfS (c : TT) (t u : TS) : TS := fun D σ H => c σ H fun b H1 => if b = true then t D σ H1 else u D σ H1
theorem ps_if {c : Expr} {a b : List Stmt} {tc : TT} (hc : PT X c tc) (ha : PSs X a t) (hb : PSs X b u) : PS X (.If c a b pos) (tIfS tc t u) := by
  intro pins s σ H D I h
  refine wpAny_If (thn (hc pins s σ H _ I h) fun d s1 ⟨H1, I1, q1⟩ => ?_)
  cases d with
  | true => exact ha pins s1 σ H1 D I1 q1
  | false => exact hb pins s1 σ H1 D I1 q1
def tNever : TS := fun _ _ _ => False
theorem ps_never : PS X st tNever := fun _ _ _ _ _ _ h => h.elim
end
abbrev TG := V → St → Hp → (St → Hp → Prop) → Prop
abbrev TGs := List V → St → Hp → (St → Hp → Prop) → Prop
def PG (X : Cx) (target : Expr) (t : TG) : Prop :=
  ∀ (pins : List (Addr × Obj)) (s : Shared) (σ : St) (H : Hp) (v : V) (u : Value) (Q : St → Hp → Prop), Inv X pins σ H s → RelV v u → t v σ H Q →
    wpAny (model X.prog X.w) X.A (assign target X.env u) (fun _ s' => ∃ σ' H', Inv X pins σ' H' s' ∧ Q σ' H') X.xe s
def PGs (X : Cx) (ts : List Expr) (t : TGs) : Prop :=
  ∀ (pins : List (Addr × Obj)) (s : Shared) (σ : St) (H : Hp) (vs : List V) (us : List Value) (Q : St → Hp → Prop), Inv X pins σ H s → Vals vs us → t vs σ H Q →
    wpAny (model X.prog X.w) X.A (assignInOrder ((assignEach ts X.env).map (·.2)) us) (fun _ s' => ∃ σ' H', Inv X pins σ' H' s' ∧ Q σ' H') X.xe s
abbrev TSet := V → V → V → Hp → (Hp → Prop) → Prop
def PSet (X : Cx) (t : TSet) : Prop :=
  ∀ (pins : List (Addr × Obj)) (s : Shared) (σ : St) (H : Hp) (o i v : V) (ov iv u : Value) (Q : Hp → Prop), Inv X pins σ H s → RelV o ov → RelV i iv → RelV v u → t o i v H Q →
    wpAny (model X.prog X.w) X.A (setItem ov iv u) (fun _ s' => ∃ H', Inv X pins σ H' s' ∧ Q H') X.xe s
section
variable {X : Cx} {pos : Pos}
def gName (i : Nat) : TG := fun v σ H Q => Q (σ.set i (some v)) H
theorem pg_name {i : Nat} {x : Str} (hN : X.N.Nodup) (hi : X.N[i]? = some x) (hx : Loc X.env.scope x) (hf : X.fn x = true ∨ X.env.scope.names.lookup x = some .local := by first | exact .inl rfl | exact .inr rfl | assumption) : PG X (.Name x pos) (gName i) := by
  intro pins s σ H v u Q I r h
  exact wpAny_assign_Name (store_ok I hN hi hx r (fun s' I' => ⟨_, H, I', h⟩) hf)
def gNil : TGs := fun vs σ H Q => vs = [] ∧ Q σ H
def gCons (t : TG) (u : TGs) : TGs := fun vs σ H Q => ∃ v r, vs = v :: r ∧ t v σ H fun σ' H' => u r σ' H' Q
theorem pgs_nil : PGs X [] gNil := by
  intro pins s σ H vs us Q I r h
  obtain ⟨e, h⟩ := h
  subst e
  cases r
  exact assignInOrder_nil ⟨σ, H, I, h⟩
theorem pgs_cons {e : Expr} {es : List Expr} {t : TG} {u : TGs} (h1 : PG X e t) (h2 : PGs X es u)
    (hs : (assignEach (e :: es) X.env).map (·.2) = assign e X.env :: (assignEach es X.env).map (·.2) := by rfl) : PGs X (e :: es) (gCons t u) := by
  intro pins s σ H vs us Q I r h
  obtain ⟨v, vr, e1, h⟩ := h
  subst e1
  cases r with
  | cons r rr =>
    rw [hs]
    refine assignInOrder_cons (thn (h1 pins s σ H _ _ _ I r h) fun _ s1 ⟨σ1, H1, I1, q1⟩ => ?_)
    exact h2 pins s1 σ1 H1 _ _ Q I1 rr q1
def gTup (K : PySem.W.Frag) (n : Nat) (t : TGs) : TG := fun v σ H Q => ∃ a xs, v = .ref a ∧ SqT K H a xs ∧ xs.length = n ∧ t xs σ H Q
theorem pg_tup {es : List Expr} {k : Nat} {t : TGs} {n : Nat} (hc : X.calm = true) (h : PGs X es t)
    (hn : (assignEach es X.env).length = n := by rfl) (hst : (assignEach es X.env).findIdx? (·.1) = none := by rfl) : PG X (.Tuple es k pos) (gTup X.K n t) := by
  intro pins s σ H v u Q I r hw
  obtain ⟨a, xs, e1, hq, hl, hw⟩ := hw
  subst e1
  cases r
  obtain ⟨its, rv, ht, hz⟩ := I.tuple hq
  refine assign_Tuple_tuple (I.ok.hd hc) ht (by simp [hn, ← hl, rv.length]) hst fun h' hx => ?_
  have I1 : Inv X pins σ H { s with heap := h' } := I.kept (t' := s.toks) fun b o e => hx b o (Nat.ne_of_lt (Heap.lt_size e)) e
  exact h pins _ σ H xs _ Q I1 (by simpa using rv) hw
def gSub (to ti : TE) (t : TSet) : TG := fun v σ H Q => to σ H fun o H1 => ti σ H1 fun i H2 => t o i v H2 fun H3 => Q σ H3
theorem pg_sub {o i : Expr} {to ti : TE} {t : TSet} (ho : PE X o to) (hi : PE X i ti) (hs : PSet X t)
    (ha : ∀ v, assign (.Subscript o i pos) X.env v = (do
      let ov ← holding [v] (eval o X.env)
      let iv ← holding [v, ov] (eval i X.env)
      standAt pos
      holding [v, ov, iv] (setItem ov iv v)
      release [v, ov, iv] []) := by intro _; rfl) : PG X (.Subscript o i pos) (gSub to ti t) := by
  intro pins s σ H v u Q I r h
  rw [ha]
  refine wpAny_bind (wpAny_holding (thn (ho pins s σ H _ I h) fun ov s1 ⟨x, H1, I1, r1, q1⟩ => ?_))
  refine wpAny_bind (wpAny_holding (thn (hi pins s1 σ H1 _ I1 q1) fun iv s2 ⟨y, H2, I2, r2, q2⟩ => ?_))
  refine wpAny_bind (wpAny_standAt (wpAny_bind (wpAny_holding (thn (hs pins s2 σ H2 x y v ov iv u _ I2 r1 r2 r q2) fun _ s3 ⟨H3, I3, q3⟩ => ?_))))
  exact wpAny_release ⟨σ, H3, I3, q3⟩
def tAsg (te : TE) (g : TG) : TS := fun D σ H => te σ H fun x H1 => g x σ H1 D.nx
theorem ps_asg {tg e : Expr} {te : TE} {g : TG} (he : PE X e te) (hg : PG X tg g) (hs : swapsWithSole [tg] e pos.line X.env = pure false := by rfl) (hw : swappedStores [tg] e X.env = pure none := by rfl)
    (h1 : (assignEach [tg] X.env).map (·.2) = [assign tg X.env] := by rfl) : PS X (.Assign [tg] e pos) (tAsg te g) := by
  intro pins s σ H D I h
  refine wpAny_Assign_stores (thn (he pins s σ H _ I h) fun v s1 ⟨x, H1, I1, r1, q1⟩ => ?_) hs hw
  rw [h1]
  exact thn (hg pins s1 σ H1 x v _ I1 r1 q1) fun _ s2 q => q
theorem ps_set {i : Nat} {x : Str} {e : Expr} {te : TE} {pos' : Pos} (hN : X.N.Nodup) (hi : X.N[i]? = some x) (hx : Loc X.env.scope x) (he : PE X e te) (hs : swapsWith e (some (.Name x pos')) pos.line X.env = pure false := by rfl) (hf : X.fn x = true ∨ X.env.scope.names.lookup x = some .local := by first | exact .inl rfl | exact .inr rfl | assumption) :
    PS X (.Assign [.Name x pos'] e pos) (tAsg te (gName i)) := by
  intro pins s σ H D I h
  refine wpAny_Assign_Name (thn (he pins s σ H _ I h) fun v s1 ⟨y, H1, I1, r1, q1⟩ => ?_) hs
  exact store_ok I1 hN hi hx r1 (fun s2 I2 => ⟨_, H1, I2, q1⟩) hf
def tPar (i j : Nat) (ta : TA) : TS := fun D σ H => ta σ H fun vs H1 => ∃ v w, vs = [v, w] ∧ D.nx ((σ.set i (some v)).set j (some w)) H1
theorem ps_par {i j : Nat} {x y : Str} {a b : Expr} {ta : TA} {px py pt : Pos} {kt k2 pt2} (hc : X.calm = true) (hN : X.N.Nodup) (hi : X.N[i]? = some x) (hj : X.N[j]? = some y) (hij : i ≠ j)
    (hx : X.env.scope.names.lookup x = some .local) (hy : X.env.scope.names.lookup y = some .local) (ha : PA X [a, b] ta)
    (hw : swappedStores [.Tuple [.Name x px, .Name y py] kt pt] (.Tuple [a, b] k2 pt2) X.env = pure (some [x, y]))
    (hs : swapsWithSole [.Tuple [.Name x px, .Name y py] kt pt] (.Tuple [a, b] k2 pt2) pos.line X.env = pure false := by rfl) :
    PS X (.Assign [.Tuple [.Name x px, .Name y py] kt pt] (.Tuple [a, b] k2 pt2) pos) (tPar i j ta) := by
  intro pins s σ H D I h
  rw [exec_Assign_arm]
  refine wpAny_bind (wpAny_standAt ?_)
  rw [hs]
  refine wpAny_bind (wpAny_pure ?_)
  rw [if_neg (by decide)]
  refine wpAny_bind (Tuple_ (thn (ha _ pins s σ H _ I h) fun us s1 ⟨vs, H1, I1, r1, q1⟩ => ?_))
  obtain ⟨v, w, e1, q1⟩ := q1
  subst e1
  obtain ⟨u1, u2, rfl, rv, rw'⟩ : ∃ u1 u2, us = [u1, u2] ∧ RelV v u1 ∧ RelV w u2 := by
    cases r1 with
    | cons p q =>
      cases q with
      | cons p' q' =>
        cases q'
        exact ⟨_, _, rfl, p, p'⟩
  refine wpAny_newObj_type ?_ (by show 2 ≤ sizeLine; decide)
  have I2 : Inv X pins σ H1 { s1 with heap := s1.heap.push { cls := .type "tuple", data := .seq [u1, u2].toArray } } := I1.kept (t' := s1.toks) fun b o e => Heap.get?_push_of_some _ e
  rw [hw]
  refine wpAny_bind (wpAny_pure ?_)
  show wpAny (model X.prog X.w) X.A (do rule "assign.swapped-stores"; let items ← unpackItems (.ref s1.heap.objs.size) 2 none; assignInOrder [fun v => bindName X.env y v, fun v => bindName X.env x v] items.reverse; pure Flow.next) _ _ _
  refine wpAny_bind (wpAny_rule (wpAny_bind (unpackItems_tuple (items := #[u1, u2]) (I.ok.hd hc) (IsTup.new s1.heap _) fun h' hx' => ?_)))
  have I3 := I2.kept (h' := h') (t' := s1.toks) fun b o e => hx' b o (Nat.ne_of_lt (Heap.lt_size e)) e
  show wpAny _ _ (assignInOrder [fun v => bindName X.env y v, fun v => bindName X.env x v] [u2, u1] >>= fun _ => pure Flow.next) _ _ _
  refine wpAny_bind (assignInOrder_cons (wpAny_bindName (store_ok I3 hN hj (.inl hy) rw' (fun s2 I4 => ?_) (.inr hy))))
  refine assignInOrder_cons (wpAny_bindName (store_ok I4 hN hi (.inl hx) rv (fun s3 I5 => assignInOrder_nil (wpAny_pure ?_)) (.inr hx)))
  rw [List.set_comm _ _ (Ne.symm hij)] at I5
  exact ⟨_, H1, I5, q1⟩
end
section
variable {X : Cx} {pos : Pos}
def tWhile (c : TT) (tb : TS) : TS := fun D σ H => ∃ W : Nat → St → Hp → Prop, (∃ m, W m σ H) ∧ ∀ m σ H, W m σ H →
  c σ H fun b H1 => if b = true then ∃ N : St → Hp → Prop, (∀ σ' H', N σ' H' → ∃ m', m' < m ∧ W m' σ' H') ∧ tb { D with nx := N, ct := N, bk := D.nx } σ H1 else D.nx σ H1
theorem ps_while {c : Expr} {body : List Stmt} {tc : TT} {tb : TS} (hp : PassesOwn (model X.prog X.w) X.A X.env X.xe) (hc : PT X c tc) (hb : PSs X body tb) : PS X (.While c body [] pos) (tWhile tc tb) := by
  intro pins s σ H D I h
  obtain ⟨W, ⟨m0, w0⟩, turn⟩ := h
  refine wpAny_While (codeAny_whileLoop (fun n s' => ∃ σ' H', Inv X pins σ' H' s' ∧ W n σ' H') ?_ m0 ⟨σ, H, I, w0⟩)
  rintro n s1 ⟨σ1, H1, I1, w1⟩
  refine wpAny_passesOwn hp (thn (hc pins s1 σ1 H1 _ I1 (turn n σ1 H1 w1)) fun b s2 ⟨H2, I2, q2⟩ => ?_)
  cases b with
  | true =>
    obtain ⟨N, hN, q2⟩ := q2
    rw [if_pos rfl]
    refine wpAny_passesOwn hp (thn (hb pins s2 σ1 H2 _ I2 q2) fun f s3 q3 => ?_)
    cases f with
    | next =>
      obtain ⟨σ3, H3, I3, n3⟩ := q3
      obtain ⟨m', hm, w3⟩ := hN σ3 H3 n3
      exact ⟨m', hm, σ3, H3, I3, w3⟩
    | cont =>
      obtain ⟨σ3, H3, I3, n3⟩ := q3
      obtain ⟨m', hm, w3⟩ := hN σ3 H3 n3
      exact ⟨m', hm, σ3, H3, I3, w3⟩
    | brk => exact q3
    | ret v => exact q3
  | false =>
    rw [if_neg Bool.false_ne_true]
    exact wpAny_execs_nil ⟨σ1, H2, I2, q2⟩
end
structure It where
  go : Nat → Hp → Prop
  yld : Nat → Hp → V → Hp → Prop
  stop : Nat → Hp → Prop
def FpOk (X : Cx) (pins : List (Addr × Obj)) (H : Hp) (b : Addr) : Prop :=
  H b = none ∧ b ≠ X.env.locals ∧ b ∉ X.fs ∧ (b ∈ X.ex ∨ X.s_0.heap.objs.size ≤ b) ∧ (∀ x c, X.env.cells.lookup x = some c → c ≠ b) ∧ ∀ p ∈ X.pn ++ pins, p.1 ≠ b
theorem Inv.fpOk {X : Cx} {pins : List (Addr × Obj)} {σ : St} {H H' : Hp} {s : Shared} {b : Addr} (I : Inv X pins σ H s) (hb : s.heap.objs.size ≤ b) (hn : H' b = none) : FpOk X pins H' b := by
  refine ⟨hn, Nat.ne_of_gt (Nat.lt_of_lt_of_le I.lt hb), I.nofs hb, .inr (Nat.le_trans I.sz hb), fun x c e z => ?_, fun p hp z => ?_⟩
  · obtain ⟨v, q⟩ := I.cell x c e
    exact absurd (Nat.lt_of_lt_of_le q.lt (by rw [z]; exact hb)) (Nat.lt_irrefl _)
  · exact absurd (Nat.lt_of_lt_of_le (Heap.lt_size (I.pin p hp).1) (by rw [z]; exact hb)) (Nat.lt_irrefl _)
structure Turn (P : Program) (w : World) (K : PySem.W.Frag) (tg : Expr) (J : It) (fp : List Addr) (it : Addr) (tn : Nat → Heap → Prop) : Prop where
  mem : it ∈ fp
  obj : ∀ i h, tn i h → ∀ b ∈ fp, ∃ o, h.get? b = some o ∧ ∀ v, o.data ≠ .cell v
  keep : ∀ i h h', tn i h → (∀ b ∈ fp, ∀ o, h.get? b = some o → h'.get? b = some o) → tn i h'
  item : ∀ (X : Cx), X.prog = P → X.w = w → X.K = K → X.calm = true → ∀ (i : Nat) (pins : List (Addr × Obj)) (s : Shared) (σ : St) (H : Hp) (E : Value → Shared → Prop), Inv X pins σ H s → (∀ b ∈ fp, FpOk X pins H b) → tn i s.heap → J.go i H →
    wpAny (model P w) X.A (pyNext (.ref it)) (fun r s1 => ∃ u, r = some u ∧
      wpAny (model P w) X.A (letOwnedTupleGo tg (.ref it) u) (fun _ s2 => ∃ x H', Inv X pins σ H' s2 ∧ RelV x u ∧ J.yld i H x H' ∧ tn (i + 1) s2.heap ∧ ∀ b ∈ fp, H' b = none) E s1) E s
  done : ∀ (X : Cx), X.prog = P → X.w = w → X.K = K → X.calm = true → ∀ (i : Nat) (pins : List (Addr × Obj)) (s : Shared) (σ : St) (H : Hp) (E : Value → Shared → Prop), Inv X pins σ H s → (∀ b ∈ fp, FpOk X pins H b) → tn i s.heap → J.stop i H →
    wpAny (model P w) X.A (pyNext (.ref it)) (fun r s1 => r = none ∧ Inv X pins σ H s1) E s
  self : ∀ (A : Around) (i : Nat) (s : Shared) (Q : Value → Shared → Prop) (E : Value → Shared → Prop), tn i s.heap → Q (.ref it) s → wpAny (model P w) A (pyIter (.ref it)) Q E s
abbrev TI := St → Hp → (It → Hp → Prop) → Prop
def PIE (X : Cx) (pins : List (Addr × Obj)) (σ : St) (tg : Expr) (R : It → Hp → Prop) (itv : Value) (s2 : Shared) : Prop :=
  ∃ (it : Addr) (fp : List Addr) (tn : Nat → Heap → Prop) (J : It) (H' : Hp), itv = .ref it ∧ Inv X pins σ H' s2 ∧ Turn X.prog X.w X.K tg J fp it tn ∧ tn 0 s2.heap ∧ (∀ b ∈ fp, FpOk X pins H' b) ∧ R J H'
def PI (X : Cx) (tg iter : Expr) (wi : TI) : Prop :=
  ∀ (pins : List (Addr × Obj)) (s : Shared) (σ : St) (H : Hp) (R : It → Hp → Prop), Inv X pins σ H s → wi σ H R →
    wpAny (model X.prog X.w) X.A (eval iter X.env) (fun v s1 => wpAny (model X.prog X.w) X.A (pyIter v) (PIE X pins σ tg R) X.xe s1) X.xe s
theorem go_of {M : Model} {A : Around} {E : Value → Shared → Prop} {s : Shared} {tg : Expr} {it : Addr} {u : Value} {o : Obj} {n : String} {vs : Array Value} {Q : Unit → Shared → Prop} (ho : s.heap.get? it = some o) (hc : o.cls = .type n) (hd : o.data = .fields vs)
    (hn : ["enumerate", "zip", "dict_itemiterator", "dict_reverseitemiterator", "odict_iterator", "itertools.zip_longest", "itertools.pairwise"].contains n = false) (hQ : Q () s) : wpAny M A (letOwnedTupleGo tg (.ref it) u) Q E s := by
  unfold letOwnedTupleGo
  cases tg <;> first
    | exact wpAny_pure hQ
    | (cases u <;> first
        | exact wpAny_pure hQ
        | (refine wpAny_bind (wpAny_load ho ?_)
           rw [hc, hd]
           show wpAny M A (if (["enumerate", "zip", "dict_itemiterator", "dict_reverseitemiterator", "odict_iterator", "itertools.zip_longest", "itertools.pairwise"].contains n && vs[0]? == some (rawInt _)) = true then _ else _) Q E s
           rw [if_neg (by intro h; rw [hn, Bool.false_and] at h; cases h)]
           exact wpAny_pure hQ))
def Itl (K : PySem.W.Frag) (a : Addr) : It :=
  ⟨fun i H => ∃ xs x, SqL K H a xs ∧ xs[i]? = some x, fun i H x H' => H' = H ∧ ∀ xs, SqL K H a xs → xs[i]? = some x, fun i H => ∃ xs, SqL K H a xs ∧ xs.length ≤ i⟩
def Itt (K : PySem.W.Frag) (a : Addr) : It :=
  ⟨fun i H => ∃ xs x, SqT K H a xs ∧ xs[i]? = some x, fun i H x H' => H' = H ∧ ∀ xs, SqT K H a xs → xs[i]? = some x, fun i H => ∃ xs, SqT K H a xs ∧ xs.length ≤ i⟩
def Itr (lo : Int) (n : Nat) : It := ⟨fun i _ => i < n, fun i H x H' => H' = H ∧ x = .int (lo + i), fun i _ => n ≤ i⟩
theorem turn_list {P : Program} {w : World} {K : PySem.W.Frag} {tg : Expr} (a it : Addr) : Turn P w K tg (Itl K a) [it] it (fun i h => h.IsListIter it a i) where
  mem := by simp
  obj := fun i h st b hb => by
    have e : b = it := by simpa using hb
    subst e
    obtain ⟨o, e, c, d⟩ := st
    exact ⟨o, e, fun v z => by rw [d] at z; cases z⟩
  keep := fun i h h' st k => st.at fun o e => k it (by simp) o e
  item := by
    intro X hP hw hK hc i pins s σ H E I hf st hg
    subst hP hw hK
    obtain ⟨xs, x, hq, hx⟩ := hg
    obtain ⟨its, rv, p, hz⟩ := I.list hq
    obtain ⟨u, hu, ru⟩ := rv.get hx
    obtain ⟨f0, f1, f2, f3, f4, f5⟩ := hf it (by simp)
    refine wpAny_pyNext_list_item st p.isList (x := u) (by simpa using hu) fun h' st' sb => ?_
    have I1 : Inv X pins σ H { s with heap := h' } := I.turned (t' := s.toks) (fun b o hb e => (sb.2 b hb).trans e) f0 f1 f3 f4 f5
    obtain ⟨o, e, c, d⟩ := id st'
    exact ⟨u, rfl, go_of (s := { s with heap := h' }) e c d (by decide) ⟨x, H, I1, ru, ⟨rfl, fun ys hy => by rw [I.list_inj hy hq]; exact hx⟩, st', fun b hb => (hf b hb).1⟩⟩
  done := by
    intro X hP hw hK hc i pins s σ H E I hf st hg
    subst hP hw hK
    obtain ⟨xs, hq, hx⟩ := hg
    obtain ⟨its, rv, p, hz⟩ := I.list hq
    obtain ⟨f0, f1, f2, f3, f4, f5⟩ := hf it (by simp)
    have hl := rv.length
    exact wpAny_pyNext_list_end (I.ok.hd hc) st p.isList (by simp; omega) fun h' eb => ⟨rfl, I.turned (t' := s.toks) (fun b o hb e => eb b o hb e) f0 f1 f3 f4 f5⟩
  self := fun _ _ _ _ _ st h => wpAny_pyIter_listiter st h
theorem turn_tuple {P : Program} {w : World} {K : PySem.W.Frag} {tg : Expr} (a it : Addr) : Turn P w K tg (Itt K a) [it] it (fun i h => h.IsTupleIter it a i) where
  mem := by simp
  obj := fun i h st b hb => by
    have e : b = it := by simpa using hb
    subst e
    obtain ⟨o, e, c, d⟩ := st
    exact ⟨o, e, fun v z => by rw [d] at z; cases z⟩
  keep := fun i h h' st k => st.at fun o e => k it (by simp) o e
  item := by
    intro X hP hw hK hc i pins s σ H E I hf st hg
    subst hP hw hK
    obtain ⟨xs, x, hq, hx⟩ := hg
    obtain ⟨its, rv, p, hz⟩ := I.tuple hq
    obtain ⟨u, hu, ru⟩ := rv.get hx
    obtain ⟨f0, f1, f2, f3, f4, f5⟩ := hf it (by simp)
    refine wpAny_pyNext_tuple_item st (show s.heap.IsTuple a its.toArray from p) (x := u) (by simpa using hu) fun h' st' sb => ?_
    have I1 : Inv X pins σ H { s with heap := h' } := I.turned (t' := s.toks) (fun b o hb e => (sb.2 b hb).trans e) f0 f1 f3 f4 f5
    obtain ⟨o, e, c, d⟩ := id st'
    exact ⟨u, rfl, go_of (s := { s with heap := h' }) e c d (by decide) ⟨x, H, I1, ru, ⟨rfl, fun ys hy => by rw [I.tuple_inj hy hq]; exact hx⟩, st', fun b hb => (hf b hb).1⟩⟩
  done := by
    intro X hP hw hK hc i pins s σ H E I hf st hg
    subst hP hw hK
    obtain ⟨xs, hq, hx⟩ := hg
    obtain ⟨its, rv, p, hz⟩ := I.tuple hq
    obtain ⟨f0, f1, f2, f3, f4, f5⟩ := hf it (by simp)
    have hl := rv.length
    exact wpAny_pyNext_tuple_end (I.ok.hd hc) st (show s.heap.IsTuple a its.toArray from p) (by simp; omega) fun h' eb => ⟨rfl, I.turned (t' := s.toks) (fun b o hb e => eb b o hb e) f0 f1 f3 f4 f5⟩
  self := fun _ _ _ _ _ st h => wpAny_pyIter_tupleiter st h
theorem turn_range {P : Program} {w : World} {K : PySem.W.Frag} {tg : Expr} (it : Addr) (lo : Int) (n : Nat) : Turn P w K tg (Itr lo n) [it] it (fun i h => IsRangeIter h it (lo + (i : Nat) * 1) ((n : Int) - (i : Nat)) 1) where
  mem := by simp
  obj := fun i h st b hb => by
    have e : b = it := by simpa using hb
    subst e
    exact ⟨_, st, fun v z => by
      have z' : Data.fields _ = Data.cell v := z
      cases z'⟩
  keep := fun i h h' st k => k it (by simp) _ st
  item := by
    intro X hP hw hK hc i pins s σ H E I hf st hg
    subst hP hw hK
    obtain ⟨f0, f1, f2, f3, f4, f5⟩ := hf it (by simp)
    have W := Walks.range (prog := X.prog) (w := X.w) (I.ok.hd hc) it lo 1 n
    refine W.item i s _ _ hg st fun v h' tk hv st' kk => ?_
    obtain ⟨t, rfl⟩ := hv
    have I1 : Inv X pins σ H { s with heap := h', toks := tk } := I.turned (fun b o hb e => kk b o (by simpa using hb) e) f0 f1 f3 f4 f5
    refine ⟨_, rfl, go_of (s := { s with heap := h', toks := tk }) (n := "range_iterator") st' rfl rfl (by decide) ⟨.int (lo + i), H, I1, ⟨t, ?_⟩, ⟨rfl, rfl⟩, st', fun b hb => (hf b hb).1⟩⟩
    rw [Int.mul_one]
  done := by
    intro X hP hw hK hc i pins s σ H E I hf st hg
    subst hP hw hK
    obtain ⟨f0, f1, f2, f3, f4, f5⟩ := hf it (by simp)
    exact wpAny_pyNext_range_end (I.ok.hd hc) st (by have : n ≤ i := hg; omega) fun h' eb => ⟨rfl, I.turned (t' := s.toks) (fun b o hb e => eb b o hb e) f0 f1 f3 f4 f5⟩
  self := fun _ _ _ _ _ st h => wpAny_pyIter_rangeiter st h
end L2
namespace L2
open PySem PySem.Spec PyProof.Rows
section
variable {X : Cx} {tg : Expr}
theorem range_it {pins : List (Addr × Obj)} {σ : St} {H : Hp} {s : Shared} {R : It → Hp → Prop} {E : Value → Shared → Prop} {lo hi : Int} {t u v : Tok} {tk : Nat} (I : Inv X pins σ H s) (h1 : -(2 ^ 62) ≤ lo) (h2 : lo < 2 ^ 62) (h3 : -(2 ^ 62) ≤ hi) (h4 : hi < 2 ^ 62)
    (q : R (Itr lo (hi - lo).toNat) H) : wpAny (model X.prog X.w) X.A (pyIter (.ref s.heap.objs.size)) (PIE X pins σ tg R) E { s with heap := s.heap.push { cls := .type "range", data := .fields #[.int lo t, .int hi u, .int 1 v] }, toks := tk } := by
  refine wpAny_pyIter_range (IsRange.new ..) (small_one h1 h2 h3 h4) ?_
  have I1 : Inv X pins σ H { s with heap := s.heap.push { cls := .type "range", data := .fields #[.int lo t, .int hi u, .int 1 v] }, toks := tk } := I.kept fun b o e => Heap.get?_push_of_some _ e
  refine ⟨(s.heap.push { cls := .type "range", data := .fields #[.int lo t, .int hi u, .int 1 v] }).objs.size, [(s.heap.push { cls := .type "range", data := .fields #[.int lo t, .int hi u, .int 1 v] }).objs.size], _, _, H, rfl,
    I1.kept (t' := tk) fun b o e => Heap.get?_push_of_some _ e, turn_range _ lo (hi - lo).toNat, ?_, fun b hb => ?_, q⟩
  · have e1 : lo + ((0 : Nat) : Int) * 1 = lo := by simp
    have e2 : (((hi - lo).toNat : Nat) : Int) - ((0 : Nat) : Int) = Builtin.Range.rangeSize lo hi 1 := by rw [rangeSize_one]; split <;> omega
    show IsRangeIter _ _ (lo + ((0 : Nat) : Int) * 1) ((((hi - lo).toNat : Nat) : Int) - ((0 : Nat) : Int)) 1
    rw [e1, e2]
    exact Heap.get?_push_size _ rfl
  · have e : b = (s.heap.push { cls := .type "range", data := .fields #[.int lo t, .int hi u, .int 1 v] }).objs.size := by simpa using hb
    subst e
    exact I1.fpOk (Nat.le_refl _) (I1.hok.fresh (Nat.le_refl _))
def iRng1 (ta : TA) : TI := fun σ H R => ta σ H fun vs H1 => ∃ j : Int, vs = [.int j] ∧ -(2 ^ 62) ≤ j ∧ j < 2 ^ 62 ∧ R (Itr 0 j.toNat) H1
theorem pi_range1 {a : Expr} {ta : TA} {p pos : Pos} (hg : Gl X "range") (hm : X.mg "range" = none) (ha : PA X [a] ta) (hs : starEach [a] X.env = [(false, eval a X.env)] := by rfl) : PI X tg (.Call (.Name "range" p) [a] [] pos) (iRng1 ta) := by
  intro pins s σ H R I h
  refine Call_ (ld_blt I hg hm boot_range (PyProof.Rows.callWith_type1 (thn (ha pos pins s σ H _ I h) fun us s1 ⟨vs, H1, I1, r1, q1⟩ => ?_) hs rfl))
  obtain ⟨j, e, q1, q2, q⟩ := q1
  subst e
  cases r1 with
  | cons r rr =>
    cases rr
    obtain ⟨t, rfl⟩ := r
    exact call_range_1 (range_it I1 (by omega) (by omega) q1 q2 (by simpa using q))
def tFor (wi : TI) (g : TG) (tb : TS) : TS := fun D σ H => wi σ H fun J H1 => ∃ W : Nat → Nat → St → Hp → Prop, (∃ m, W 0 m σ H1) ∧ ∀ i m σ H, W i m σ H →
  (J.stop i H ∧ D.nx σ H) ∨ (J.go i H ∧ ∃ N : St → Hp → Prop, (∀ σ' H', N σ' H' → ∃ m', m' < m ∧ W (i + 1) m' σ' H') ∧ ∀ x H', J.yld i H x H' → g x σ H' fun σ2 H2 => tb { D with nx := N, ct := N, bk := D.nx } σ2 H2)
def pinsAt (fp : List Addr) (h : Heap) : List (Addr × Obj) := fp.filterMap fun b => (h.get? b).map fun o => (b, o)
theorem mem_pinsAt {fp : List Addr} {h : Heap} {b : Addr} {o : Obj} (hb : b ∈ fp) (e : h.get? b = some o) : (b, o) ∈ pinsAt fp h := List.mem_filterMap.mpr ⟨b, hb, by rw [e]; rfl⟩
theorem of_pinsAt {fp : List Addr} {h : Heap} {p : Addr × Obj} (hp : p ∈ pinsAt fp h) : p.1 ∈ fp ∧ h.get? p.1 = some p.2 := by
  obtain ⟨b, hb, e⟩ := List.mem_filterMap.mp hp
  cases q : h.get? b with
  | none => rw [q] at e; cases e
  | some o =>
    rw [q] at e
    have e' : (b, o) = p := Option.some.inj e
    subst e'
    exact ⟨hb, q⟩
theorem Inv.pinned {pins : List (Addr × Obj)} {σ : St} {H : Hp} {s : Shared} {fp : List Addr} (I : Inv X pins σ H s) (hf : ∀ b ∈ fp, FpOk X pins H b) (ho : ∀ b ∈ fp, ∃ o, s.heap.get? b = some o ∧ ∀ v, o.data ≠ .cell v) : Inv X (pins ++ pinsAt fp s.heap) σ H s :=
  I.pins_of fun p hp => (List.mem_append.mp hp).elim (fun z => I.pin p (List.mem_append_right _ z)) fun z => by
    obtain ⟨hb, e⟩ := of_pinsAt z
    obtain ⟨f0, f1, f2, _⟩ := hf p.1 hb
    obtain ⟨o, e', d⟩ := ho p.1 hb
    rw [e] at e'; cases e'
    exact ⟨e, f0, f1, f2, d⟩
theorem Inv.unpinned {pins pl : List (Addr × Obj)} {σ : St} {H : Hp} {s : Shared} (I : Inv X (pins ++ pl) σ H s) : Inv X pins σ H s := I.pins_of fun p hp => I.pin p (List.mem_append_right _ (List.mem_append_left _ hp))
theorem ps_for {iter : Expr} {body : List Stmt} {wi : TI} {g : TG} {tb : TS} {pos : Pos} (hp : PassesOwn (model X.prog X.w) X.A X.env X.xe) (hc : X.calm = true) (hi : PI X tg iter wi) (hg : PG X tg g) (hb : PSs X body tb)
    (hs : ∀ x, foldedSetIterable iter X.env x = pure x := by intro _; rfl) : PS X (.For tg iter body [] pos) (tFor wi g tb) := by
  intro pins s σ H D I h
  refine wpAny_For (thn (hi pins s σ H _ I h) fun v s1 h1 => thn h1 fun itv s2 h2 => ?_) hs
  obtain ⟨it, fp, tn, J, H2, e, I2, T, st2, f2, W, ⟨m0, w0⟩, turn⟩ := h2
  subst e
  -- what stays true of the iterator's objects through the loop
  have stat : ∀ {H' : Hp}, (∀ b ∈ fp, H' b = none) → ∀ b ∈ fp, FpOk X pins H' b := fun hn b hb => ⟨hn b hb, (f2 b hb).2⟩
  refine codeAny_forLoop_any (fun n s' => ∃ i σ' H', Inv X pins σ' H' s' ∧ tn i s'.heap ∧ (∀ b ∈ fp, H' b = none) ∧ W i n σ' H') ?_ m0 ⟨0, σ, H2, I2, st2, fun b hb => (f2 b hb).1, w0⟩
  rintro n s3 ⟨i, σ3, H3, I3, st3, fr3, w3⟩
  rcases turn i n σ3 H3 w3 with ⟨stop, qn⟩ | ⟨go, N, hN, step⟩
  · refine wpAny_passesOwn hp (thn (T.done X rfl rfl rfl hc i pins s3 σ3 H3 X.xe I3 (stat fr3) st3 stop) fun r s4 ⟨hr, I4⟩ => ?_)
    subst hr
    exact wpAny_execs_nil ⟨σ3, H3, I4, qn⟩
  · refine wpAny_passesOwn hp (thn (T.item X rfl rfl rfl hc i pins s3 σ3 H3 X.xe I3 (stat fr3) st3 go) fun r s4 ⟨u, hr, h4⟩ => ?_)
    subst hr
    refine wpAny_passesOwn hp (thn h4 fun _ s5 ⟨x, H5, I5, r5, y5, st5, fr5⟩ => ?_)
    have I5' := I5.pinned (stat fr5) (T.obj _ _ st5)
    refine wpAny_passesOwn hp (thn (hg _ s5 σ3 H5 x u _ I5' r5 (step x H5 y5)) fun _ s6 ⟨σ6, H6, I6, q6⟩ => ?_)
    refine wpAny_passesOwn hp (thn (hb _ s6 σ6 H6 _ I6 q6) fun f s7 q7 => ?_)
    have again : ∀ {σ7 : St} {H7 : Hp}, Inv X (pins ++ pinsAt fp s5.heap) σ7 H7 s7 → N σ7 H7 → ∃ m, m < n ∧ ∃ i σ' H', Inv X pins σ' H' s7 ∧ tn i s7.heap ∧ (∀ b ∈ fp, H' b = none) ∧ W i m σ' H' := fun {σ7 H7} I7 n7 => by
      obtain ⟨m', hm, w7⟩ := hN σ7 H7 n7
      refine ⟨m', hm, i + 1, σ7, H7, I7.unpinned, T.keep _ _ _ st5 fun b hb o e => (I7.pin (b, o) (List.mem_append_right _ (List.mem_append_right _ (mem_pinsAt hb e)))).1, fun b hb => ?_, w7⟩
      obtain ⟨o, e, d⟩ := T.obj _ _ st5 b hb
      exact (I7.pin (b, o) (List.mem_append_right _ (List.mem_append_right _ (mem_pinsAt hb e)))).2.1
    cases f with
    | next => obtain ⟨σ7, H7, I7, n7⟩ := q7; exact again I7 n7
    | cont => obtain ⟨σ7, H7, I7, n7⟩ := q7; exact again I7 n7
    | brk => obtain ⟨σ7, H7, I7, q7⟩ := q7; exact ⟨σ7, H7, I7.unpinned, q7⟩
    | ret v => obtain ⟨x7, σ7, H7, I7, r7, q7⟩ := q7; exact ⟨x7, σ7, H7, I7.unpinned, r7, q7⟩
end
end L2
namespace L2
open PySem PySem.Spec PyProof.Rows
abbrev R2 := V → V → Hp → VK → Prop
def OpR (X : Cx) (f : Value → Value → Sem Value) (r : R2) : Prop :=
  ∀ (pins : List (Addr × Obj)) (s : Shared) (σ : St) (H : Hp) (x y : V) (v u : Value) (Q : VK), Inv X pins σ H s → RelV x v → RelV y u → r x y H Q →
    wpAny (model X.prog X.w) X.A (f v u) (EP X pins σ Q) X.xe s
def UnR (X : Cx) (f : Value → Sem Value) (r : V → Hp → VK → Prop) : Prop :=
  ∀ (pins : List (Addr × Obj)) (s : Shared) (σ : St) (H : Hp) (x : V) (v : Value) (Q : VK), Inv X pins σ H s → RelV x v → r x H Q →
    wpAny (model X.prog X.w) X.A (f v) (EP X pins σ Q) X.xe s
def CallR (X : Cx) (f : Value) (r : List V → Hp → VK → Prop) : Prop :=
  ∀ (pins : List (Addr × Obj)) (s : Shared) (σ : St) (H : Hp) (xs : List V) (us : List Value) (Q : VK), Inv X pins σ H s → Vals xs us → r xs H Q →
    wpAny (model X.prog X.w) X.A (call f us) (EP X pins σ Q) X.xe s
def tOp (r : R2) (ta tb : TE) : TE := fun σ H Q => ta σ H fun x H1 => tb σ H1 fun y H2 => r x y H2 Q
def tUn (r : V → Hp → VK → Prop) (ta : TE) : TE := fun σ H Q => ta σ H fun x H1 => r x H1 Q
def rI (C : Int → Int → Prop) (g : Int → Int → V) : R2 := fun x y H Q => ∃ i j, x = .int i ∧ y = .int j ∧ C i j ∧ Q (g i j) H
def rI0 (g : Int → Int → V) : R2 := fun x y H Q => ∃ i j, x = .int i ∧ y = .int j ∧ Q (g i j) H
def rU (g : Int → V) : V → Hp → VK → Prop := fun x H Q => ∃ i, x = .int i ∧ Q (g i) H
section
variable {X : Cx} {a b c : Expr} {ta tb tc : TE} {pos : Pos}
theorem binT (ha : PE X a ta) (hb : PE X b tb) {pins : List (Addr × Obj)} {s : Shared} {σ : St} {H : Hp} {R : V → V → Hp → Prop} (I : Inv X pins σ H s)
    (h : ta σ H fun x H1 => tb σ H1 fun y H2 => R x y H2) {Q : Value → Shared → Prop} {f : Value → Value → Sem Value}
    (hf : ∀ v u s2 x y H2, Inv X pins σ H2 s2 → RelV x v → RelV y u → R x y H2 → wpAny (model X.prog X.w) X.A (f v u) Q X.xe s2) :
    wpAny (model X.prog X.w) X.A (eval a X.env) (fun v s₁ => wpAny (model X.prog X.w) X.A (eval b X.env) (fun u s₂ => wpAny (model X.prog X.w) X.A (f v u) Q X.xe s₂) X.xe s₁) X.xe s := by
  refine thn (ha pins s σ H _ I h) fun v s1 ⟨x, H1, I1, r1, q1⟩ => ?_
  refine thn (hb pins s1 σ H1 _ I1 q1) fun u s2 ⟨y, H2, I2, r2, q2⟩ => ?_
  exact hf v u s2 x y H2 I2 r1 r2 q2
theorem pe_op {op : Operator} {r : R2} (ho : OpR X (binaryOp op) r) (ha : PE X a ta) (hb : PE X b tb) : PE X (.BinOp a op b pos) (tOp r ta tb) := by
  intro pins s σ H Q I h
  exact wpAny_BinOp (binT ha hb I h fun v u s2 x y H2 I2 rx ry q => ho pins s2 σ H2 x y v u Q I2 rx ry q)
theorem pe_un {op : UnaryOp} {r : V → Hp → VK → Prop} (ho : UnR X (unaryOp op) r) (ha : PE X a ta) : PE X (.UnaryOp op a pos) (tUn r ta) := by
  intro pins s σ H Q I h
  exact UnaryOp_ (thn (ha pins s σ H _ I h) fun v s1 ⟨x, H1, I1, r1, q1⟩ => ho pins s1 σ H1 x v Q I1 r1 q1)
theorem opI {f : Value → Value → Sem Value} {C : Int → Int → Prop} {g : Int → Int → Int}
    (rule : ∀ (i j : Int) (t u : Tok) (s : Shared) (Q : Value → Shared → Prop) (E : Value → Shared → Prop), C i j → Q (.int (g i j) s.toks) { s with toks := s.toks + 1 } → wpAny (model X.prog X.w) X.A (f (.int i t) (.int j u)) Q E s) :
    OpR X f (rI C fun i j => .int (g i j)) := by
  intro pins s σ H x y v u Q I rx ry h
  obtain ⟨i, j, rfl, rfl, hc, q⟩ := h
  obtain ⟨t, rfl⟩ := rx
  obtain ⟨t', rfl⟩ := ry
  exact rule i j t t' s _ _ hc ⟨.int (g i j), H, I.tok _, ⟨_, rfl⟩, q⟩
theorem opI0 {f : Value → Value → Sem Value} {g : Int → Int → Int}
    (rule : ∀ (i j : Int) (t u : Tok) (s : Shared) (Q : Value → Shared → Prop) (E : Value → Shared → Prop), Q (.int (g i j) s.toks) { s with toks := s.toks + 1 } → wpAny (model X.prog X.w) X.A (f (.int i t) (.int j u)) Q E s) :
    OpR X f (rI0 fun i j => .int (g i j)) := by
  intro pins s σ H x y v u Q I rx ry h
  obtain ⟨i, j, rfl, rfl, q⟩ := h
  obtain ⟨t, rfl⟩ := rx
  obtain ⟨t', rfl⟩ := ry
  exact rule i j t t' s _ _ ⟨.int (g i j), H, I.tok _, ⟨_, rfl⟩, q⟩
theorem opB0 {f : Value → Value → Sem Value} {g : Int → Int → Bool}
    (rule : ∀ (i j : Int) (t u : Tok) (s : Shared) (Q : Value → Shared → Prop) (E : Value → Shared → Prop), Q (.bool (g i j)) s → wpAny (model X.prog X.w) X.A (f (.int i t) (.int j u)) Q E s) :
    OpR X f (rI0 fun i j => .bl (g i j)) := by
  intro pins s σ H x y v u Q I rx ry h
  obtain ⟨i, j, rfl, rfl, q⟩ := h
  obtain ⟨t, rfl⟩ := rx
  obtain ⟨t', rfl⟩ := ry
  exact rule i j t t' s _ _ ⟨.bl (g i j), H, I, rfl, q⟩
def CPow (i j : Int) : Prop := 0 ≤ j ∧ j ≤ 1000000 ∧ i.natAbs < 2 ^ 64
def CMul (i j : Int) : Prop := (-(2 ^ 64) < i ∧ i < 2 ^ 64) ∨ (-(2 ^ 64) < j ∧ j < 2 ^ 64)
theorem CMul.ok {i j : Int} (h : CMul i j) : IntMulOk i j := by
  rcases h with ⟨h1, h2⟩ | ⟨h1, h2⟩
  · exact .of_left (intBits_le_64 h1 h2)
  · exact .of_right (intBits_le_64 h1 h2)
theorem op_add : OpR X (binaryOp .Add) (rI0 fun i j => .int (i + j)) := opI0 fun _ _ _ _ _ _ _ q => add_int q
theorem op_sub : OpR X (binaryOp .Sub) (rI0 fun i j => .int (i - j)) := opI0 fun _ _ _ _ _ _ _ q => sub_int q
theorem op_modN : OpR X (binaryOp .Mod) (rI (fun _ j => j ≠ 0) fun i j => .int (i.fmod j)) := opI fun _ _ _ _ _ _ _ hc q => mod_int' hc q
theorem op_pow : OpR X (binaryOp .Pow) (rI CPow fun i j => .int (i ^ j.toNat)) := opI fun _ _ _ _ _ _ _ hc q => pow_int_small hc.1 hc.2.1 hc.2.2 q
theorem unI {f : Value → Sem Value} {g : Int → Int}
    (rule : ∀ (i : Int) (t : Tok) (s : Shared) (Q : Value → Shared → Prop) (E : Value → Shared → Prop), Q (.int (g i) s.toks) { s with toks := s.toks + 1 } → wpAny (model X.prog X.w) X.A (f (.int i t)) Q E s) :
    UnR X f (rU fun i => .int (g i)) := by
  intro pins s σ H x v Q I rx h
  obtain ⟨i, rfl, q⟩ := h
  obtain ⟨t, rfl⟩ := rx
  exact rule i t s _ _ ⟨.int (g i), H, I.tok _, ⟨_, rfl⟩, q⟩
theorem un_neg : UnR X (unaryOp .USub) (rU fun i => .int (-i)) := unI fun _ _ _ _ _ q => neg_int q
end
def scal : V → V → Bool
  | .non, .non => true | .non, .int _ => true | .int _, .non => true | .non, .bl _ => true | .bl _, .non => true | .non, .str _ => true | .str _, .non => true
  | .int _, .int _ => true | .bl _, .bl _ => true | .str _, .str _ => true | .byt _, .byt _ => true
  | .int _, .str _ => true | .str _, .int _ => true | .bl _, .str _ => true | .str _, .bl _ => true
  | _, _ => false
def rEq : R2 := fun x y H Q => scal x y = true ∧ Q (.bl (decide (x = y))) H
def rNe : R2 := fun x y H Q => scal x y = true ∧ Q (.bl (!decide (x = y))) H
theorem dec_int {i j : Int} : decide (V.int i = V.int j) = (i == j) := by
  rw [Bool.eq_iff_iff]
  simp
theorem dec_bl {i j : Bool} : decide (V.bl i = V.bl j) = (i == j) := by
  rw [Bool.eq_iff_iff]
  simp
theorem dec_str {i j : Str} : decide (V.str i = V.str j) = (i == j) := by
  rw [Bool.eq_iff_iff]
  simp
theorem dec_byt {i j : Array UInt8} : decide (V.byt i = V.byt j) = (i.toList == j.toList) := by
  rw [Bool.eq_iff_iff]
  cases i
  cases j
  simp
section
variable {X : Cx} {a b c : Expr} {ta tb tc : TE} {pos : Pos}
theorem fin_bl {pins : List (Addr × Obj)} {σ : St} {H : Hp} {s : Shared} {Q : VK} {k k' : Bool} (I : Inv X pins σ H s) (q : Q (.bl k) H) (e : k = k') : EP X pins σ Q (.bool k') s := by
  subst e
  exact ⟨.bl k, H, I, rfl, q⟩
theorem op_eq : OpR X (compareOp .Eq) rEq := by
  intro pins s σ H x y v u Q I rx ry h
  obtain ⟨hs, q⟩ := h
  cases x with
  | non =>
    cases rx
    cases y with
    | non => cases ry; exact PySem.EqNone.eq_none_none (fin_bl I q (by simp))
    | bl j => cases ry; exact PySem.EqNone.eq_none_bool (fin_bl I q (by simp))
    | int j => obtain ⟨t', rfl⟩ := ry; exact PySem.EqNone.eq_none_int (fin_bl I q (by simp))
    | str j => obtain ⟨t', rfl⟩ := ry; exact PySem.EqNone.eq_none_str (fin_bl I q (by simp))
    | _ => exact absurd (show false = true from hs) Bool.false_ne_true
  | bl i =>
    cases rx
    cases y with
    | non => cases ry; exact PySem.EqNone.eq_bool_none (fin_bl I q (by simp))
    | bl j => cases ry; exact eq_bool (fin_bl I q dec_bl)
    | str j => obtain ⟨t', rfl⟩ := ry; exact PySem.EqMixed.eq_bool_str (fin_bl I q (by simp))
    | _ => exact absurd (show false = true from hs) Bool.false_ne_true
  | int i =>
    obtain ⟨t, rfl⟩ := rx
    cases y with
    | non => cases ry; exact PySem.EqNone.eq_int_none (fin_bl I q (by simp))
    | int j => obtain ⟨t', rfl⟩ := ry; exact eq_int (fin_bl I q dec_int)
    | str j => obtain ⟨t', rfl⟩ := ry; exact PySem.EqMixed.eq_int_str (fin_bl I q (by simp))
    | _ => exact absurd (show false = true from hs) Bool.false_ne_true
  | str i =>
    obtain ⟨t, rfl⟩ := rx
    cases y with
    | non => cases ry; exact PySem.EqNone.eq_str_none (fin_bl I q (by simp))
    | bl j => cases ry; exact PySem.EqMixed.eq_str_bool (fin_bl I q (by simp))
    | int j => obtain ⟨t', rfl⟩ := ry; exact PySem.EqMixed.eq_str_int (fin_bl I q (by simp))
    | str j => obtain ⟨t', rfl⟩ := ry; exact eq_str (fin_bl I q dec_str)
    | _ => exact absurd (show false = true from hs) Bool.false_ne_true
  | byt i =>
    obtain ⟨t, rfl⟩ := rx
    cases y with
    | byt j => obtain ⟨t', rfl⟩ := ry; exact PySem.W.eq_bytes (fin_bl I q dec_byt)
    | _ => exact absurd (show false = true from hs) Bool.false_ne_true
  | _ => cases y <;> exact absurd (show false = true from hs) Bool.false_ne_true
theorem op_ne : OpR X (compareOp .NotEq) rNe := by
  intro pins s σ H x y v u Q I rx ry h
  obtain ⟨hs, q⟩ := h
  cases x with
  | non =>
    cases rx
    cases y with
    | non => cases ry; exact PySem.EqNone.ne_none_none (fin_bl I q (by simp))
    | bl j => cases ry; exact PySem.EqNone.ne_none_bool (fin_bl I q (by simp))
    | int j => obtain ⟨t', rfl⟩ := ry; exact PySem.EqNone.ne_none_int (fin_bl I q (by simp))
    | str j => obtain ⟨t', rfl⟩ := ry; exact PySem.EqNone.ne_none_str (fin_bl I q (by simp))
    | _ => exact absurd (show false = true from hs) Bool.false_ne_true
  | bl i =>
    cases rx
    cases y with
    | non => cases ry; exact PySem.EqNone.ne_bool_none (fin_bl I q (by simp))
    | bl j => cases ry; exact ne_bool (fin_bl I q (congrArg not dec_bl))
    | str j => obtain ⟨t', rfl⟩ := ry; exact PySem.EqMixed.ne_bool_str (fin_bl I q (by simp))
    | _ => exact absurd (show false = true from hs) Bool.false_ne_true
  | int i =>
    obtain ⟨t, rfl⟩ := rx
    cases y with
    | non => cases ry; exact PySem.EqNone.ne_int_none (fin_bl I q (by simp))
    | int j => obtain ⟨t', rfl⟩ := ry; exact ne_int (fin_bl I q (congrArg not dec_int))
    | str j => obtain ⟨t', rfl⟩ := ry; exact PySem.EqMixed.ne_int_str (fin_bl I q (by simp))
    | _ => exact absurd (show false = true from hs) Bool.false_ne_true
  | str i =>
    obtain ⟨t, rfl⟩ := rx
    cases y with
    | non => cases ry; exact PySem.EqNone.ne_str_none (fin_bl I q (by simp))
    | bl j => cases ry; exact PySem.EqMixed.ne_str_bool (fin_bl I q (by simp))
    | int j => obtain ⟨t', rfl⟩ := ry; exact PySem.EqMixed.ne_str_int (fin_bl I q (by simp))
    | str j => obtain ⟨t', rfl⟩ := ry; exact ne_str (fin_bl I q (congrArg not dec_str))
    | _ => exact absurd (show false = true from hs) Bool.false_ne_true
  | byt i =>
    obtain ⟨t, rfl⟩ := rx
    cases y with
    | byt j => obtain ⟨t', rfl⟩ := ry; exact PySem.W.ne_bytes (fin_bl I q (congrArg not dec_byt))
    | _ => exact absurd (show false = true from hs) Bool.false_ne_true
  | _ => cases y <;> exact absurd (show false = true from hs) Bool.false_ne_true
theorem op_lt : OpR X (compareOp .Lt) (rI0 fun i j => .bl (decide (i < j))) := opB0 fun _ _ _ _ _ _ _ q => lt_int q
theorem op_le : OpR X (compareOp .LtE) (rI0 fun i j => .bl (decide (i ≤ j))) := opB0 fun _ _ _ _ _ _ _ q => le_int q
theorem op_gt : OpR X (compareOp .Gt) (rI0 fun i j => .bl (decide (j < i))) := opB0 fun _ _ _ _ _ _ _ q => gt_int q
theorem op_ge : OpR X (compareOp .GtE) (rI0 fun i j => .bl (decide (j ≤ i))) := opB0 fun _ _ _ _ _ _ _ q => ge_int q
theorem OpR.or {f : Value → Value → Sem Value} {r r' : R2} (h : OpR X f r) (h' : OpR X f r') : OpR X f (fun x y H Q => r x y H Q ∨ r' x y H Q) := by
  intro pins s σ H x y v u Q I rx ry q
  rcases q with q | q
  · exact h pins s σ H x y v u Q I rx ry q
  · exact h' pins s σ H x y v u Q I rx ry q
theorem nomark (b : Expr) {op : CmpOp} (h : op ≠ .In := by decide) (h2 : op ≠ .NotIn := by decide) : behindInMarks op b = false := by
  have e1 : (op == CmpOp.In) = false := by cases op <;> first | rfl | exact absurd rfl h
  have e2 : (op == CmpOp.NotIn) = false := by cases op <;> first | rfl | exact absurd rfl h2
  cases b <;> simp [behindInMarks, e1, e2]
theorem pe_cmpR {op : CmpOp} {r : R2} (ho : OpR X (compareOp op) r) (ha : PE X a ta) (hb : PE X b tb) (hm : behindInMarks op b = false) : PE X (.Compare a [op] [b] pos) (tOp r ta tb) := by
  intro pins s σ H Q I h
  exact wpAny_Compare1 (binT ha hb I h fun v u s2 x y H2 I2 rx ry q => ho pins s2 σ H2 x y v u Q I2 rx ry q) hm
def tTest (t : TE) : TT := fun σ H Q => t σ H fun x H' => ∃ k, x = .bl k ∧ Q k H'
theorem pt_cmpR {op : CmpOp} {r : R2} (ho : OpR X (compareOp op) r) (ha : PE X a ta) (hb : PE X b tb) (hm : behindInMarks op b = false) : PT X (.Compare a [op] [b] pos) (tTest (tOp r ta tb)) := by
  intro pins s σ H Q I h
  refine wpAny_isTrue_Compare1 (thn (ha pins s σ H _ I h) fun v s1 ⟨x, H1, I1, r1, q1⟩ => thn (hb pins s1 σ H1 _ I1 q1) fun u s2 ⟨y, H2, I2, r2, q2⟩ =>
    thn (ho pins s2 σ H2 x y v u _ I2 r1 r2 q2) fun c s3 ⟨z, H3, I3, r3, k, e, q3⟩ => ?_) hm
  subst e
  cases r3
  exact wpAny_truthy_bool ⟨H3, I3, q3⟩
def tChain (r r' : R2) (ta tb tc : TE) : TE := fun σ H Q => ta σ H fun x H1 => tb σ H1 fun y H2 => r x y H2 fun z H3 => ∃ k, z = .bl k ∧
  (if k = true then tc σ H3 fun w' H4 => r' y w' H4 Q else Q (.bl false) H3)
theorem pe_chain {op op' : CmpOp} {r r' : R2} (ho : OpR X (compareOp op) r) (ho' : OpR X (compareOp op') r') (ha : PE X a ta) (hb : PE X b tb) (hc : PE X c tc)
    (hm : lastMarks [op, op'] [b, c] = false := by with_unfolding_all rfl) : PE X (.Compare a [op, op'] [b, c] pos) (tChain r r' ta tb tc) := by
  intro pins s σ H Q I h
  refine Compare_chain (thn (ha pins s σ H _ I h) fun v s1 ⟨x, H1, I1, r1, q1⟩ => chain_link (thn (hb pins s1 σ H1 _ I1 q1) fun u s2 ⟨y, H2, I2, r2, q2⟩ =>
    thn (ho pins s2 σ H2 x y v u _ I2 r1 r2 q2) fun d s3 ⟨z, H3, I3, r3, k, e, q3⟩ => ?_)) hm
  subst e
  cases r3
  refine wpAny_truthy_bool ?_
  cases k with
  | false => exact ite_ff ⟨.bl false, H3, I3, rfl, q3⟩
  | true => exact ite_tt (chain_last (thn (hc pins s3 σ H3 _ I3 q3) fun w' s4 ⟨z', H4, I4, r4, q4⟩ => ho' pins s4 σ H4 y z' u w' Q I4 r2 r4 q4))
theorem line63 : (sizeLine : Nat) < 2 ^ 63 := by rw [sizeLine_eq]; decide
theorem vals1 {x : V} {us : List Value} (r : Vals [x] us) : ∃ u, us = [u] ∧ RelV x u := by
  cases r with
  | cons r1 r2 => cases r2; exact ⟨_, rfl, r1⟩
theorem vals2 {x y : V} {us : List Value} (r : Vals [x, y] us) : ∃ u w', us = [u, w'] ∧ RelV x u ∧ RelV y w' := by
  cases r with
  | cons r1 r2 =>
    cases r2 with
    | cons r3 r4 => cases r4; exact ⟨_, _, rfl, r1, r3⟩
theorem call_abs : CallR X (.builtin "abs") (fun xs H Q => ∃ i, xs = [.int i] ∧ Q (.int (if i < 0 then -i else i)) H) := by
  intro pins s σ H xs us Q I r h
  obtain ⟨i, rfl, q⟩ := h
  obtain ⟨u, rfl, t, rfl⟩ := vals1 r
  exact call_abs_int fun u tk => ⟨.int (if i < 0 then -i else i), H, I.tok _, ⟨_, rfl⟩, q⟩
end
end L2
namespace L2
open PySem PySem.Spec PyProof.Rows
structure ObjM (h : Heap) (x dx C : Addr) (mA : Str → Option Value) : Prop where
  obj : h.get? x = some (PySem.W.instObj C dx)
  ns : h.Ns1 dx mA
  ne : dx ≠ x
section
variable {prog : Program} {w : World} {A : Around} {E : Value → Shared → Prop} {s : Shared} {K : PySem.W.Frag} {x dx C f : Addr} {mA : Str → Option Value} {name : Str} {v : Value}
end
theorem RelO.some_of {v : V} {o : Option Value} (r : RelO (some v) o) : ∃ u, o = some u ∧ RelV v u := by
  cases o with
  | none => exact (show False from r).elim
  | some u => exact ⟨u, rfl, r⟩
theorem RelO.none_of {o : Option Value} (r : RelO none o) : o = none := by
  cases o with
  | none => rfl
  | some u => exact (show False from r).elim
section
variable {P : Program} {w : World} {H H' : Hp} {h h' : Heap} {a C dx : Addr} {fs fs' : List (Str × V)}
theorem ins_get (hok : HOk P w H h) (e : H a = some (.ins C dx fs)) : ∃ mA, ObjM h a dx C mA ∧ (∀ f, RelO (fs.lookup f) (mA f)) ∧ PySem.Within mA (fs.map (·.1)) ∧ fs.length ≤ 1000 ∧ H dx = some (.own a) := by
  obtain ⟨d, z, ne, ob, mA, n, r, q⟩ := (show ObjOk P w H h a (.ins C dx fs) from hok a _ e)
  exact ⟨mA, ⟨ob, n, ne⟩, r, q, z, d⟩
end
structure Cls (K : PySem.W.Frag) (C : Addr) : Prop where
  pg : PySem.W.plainGet K C Str.empty = true
  hd : PySem.W.hasDictIn K C = true
  po : PySem.W.plainOver K C = true
  sa : PySem.W.findIn K (.ref C) "__setattr__" = some (some (.builtin "object.__setattr__"))
theorem Cls.get {K : PySem.W.Frag} {C : Addr} (c : Cls K C) (f : Str) : PySem.W.plainGet K C f = true := c.pg
structure Con (K : PySem.W.Frag) (C : Addr) (f : Str) (v : V) (u : Value) : Prop where
  at_ : PySem.W.findIn K (.ref C) f = some (some u)
  rel : RelV v u
  get : PySem.W.specialIn K u "__get__" = some none
  cp : PySem.W.copiedNames.contains f = false
structure Meth (K : PySem.W.Frag) (C : Addr) (m : Str) (f : Addr) : Prop where
  at_ : PySem.W.findIn K (.ref C) m = some (some (.ref f))
  fn : PySem.W.isFn K (.ref f) = true
  kp : PySem.W.keepIn K (.ref f) = true
section
variable {X : Cx} {pins : List (Addr × Obj)} {σ : St} {H : Hp} {s : Shared} {a C dx : Addr} {fs : List (Str × V)} {f : Str} {v : V} {A : Around} {E : Value → Shared → Prop}
theorem Inv.made (I : Inv X pins σ H s) : Inv X pins σ (upd (upd H s.heap.objs.size (.own (s.heap.objs.size + 1))) (s.heap.objs.size + 1) (.ins C s.heap.objs.size []))
    { s with heap := (s.heap.push PySem.W.emptyDict).push (PySem.W.instObj C s.heap.objs.size) } := by
  have e1 : (s.heap.push PySem.W.emptyDict).get? s.heap.objs.size = some PySem.W.emptyDict := Heap.get?_push_size s.heap rfl
  have e2 : ((s.heap.push PySem.W.emptyDict).push (PySem.W.instObj C s.heap.objs.size)).get? (s.heap.objs.size + 1) = some (PySem.W.instObj C s.heap.objs.size) := by
    have := Heap.get?_push_size (s.heap.push PySem.W.emptyDict) (o := PySem.W.instObj C s.heap.objs.size) rfl
    rwa [Heap.size_push] at this
  have e3 : (s.heap.push PySem.W.emptyDict).Ns s.heap.objs.size (fun _ => none) := ⟨PySem.W.emptyDict, #[], _, e1, rfl, (fun e he => absurd he (by simp)), fun _ => rfl⟩
  have I1 := I.laid (a := s.heap.objs.size) (o := .own (s.heap.objs.size + 1)) (h' := s.heap.push PySem.W.emptyDict) (t' := s.toks) (fun b u q => Heap.get?_push_of_some _ q) (Nat.le_refl _) ⟨_, e1⟩
  refine I1.laid (a := s.heap.objs.size + 1) (o := .ins C s.heap.objs.size []) (t' := s.toks) (fun b u q => Heap.get?_push_of_some _ q) (Nat.le_of_eq (Heap.size_push _ _)) ?_
  have ne : s.heap.objs.size ≠ s.heap.objs.size + 1 := Nat.ne_of_lt (Nat.lt_succ_self _)
  refine ⟨by rw [upd_ne ne, upd_same], Nat.zero_le _, ne, e2, fun _ => none, (Heap.Ns1.of_empty e3).at fun o q => Heap.get?_push_of_some _ q, fun _ => True.intro, fun y hy => absurd rfl hy⟩
theorem attr_of {prog : Program} {w : World} {env : Env} {e : Expr} {f : Str} {pos : Pos} {s : Shared} {Q : Value → Shared → Prop} (hb : attributeBase e f env (eval e env) = eval e env)
    (h : wpAny (model prog w) A (eval e env) (fun o s₁ => wpAny (model prog w) A (getAttr o f true) Q E s₁) E s) : wpAny (model prog w) A (eval (.Attribute e f pos) env) Q E s :=
  Attribute_any_ h (by rw [arm_eval_Attribute, hb])
end
section
variable {X : Cx} {o e value : Expr} {f : Str} {pos pos' tpos : Pos} {ta tv : TE}
end
section
variable {X : Cx} {pins : List (Addr × Obj)} {σ : St} {H : Hp} {s : Shared} {A : Around} {E : Value → Shared → Prop} {Q : Value → Shared → Prop} {c : Value} {b : Bool}
inductive TyOf (K : PySem.W.Frag) (H : Hp) : V → Value → Prop where
  | non : TyOf K H .non (.type "NoneType")
  | bl (x : Bool) : TyOf K H (.bl x) (.type "bool")
  | int (i : Int) : TyOf K H (.int i) (.type "int")
  | str (x : Str) : TyOf K H (.str x) (.type "str")
  | flt (x : UInt64) : TyOf K H (.flt x) (.type "float")
  | lst {a : Addr} {xs : List V} (e : H a = some (.lst xs)) : TyOf K H (.ref a) (.type "list")
  | frz {a : Addr} {o : Obj} {xs : List V} (e : H a = some (.frz o (.lst xs))) : TyOf K H (.ref a) (.type "list")
  | tup {a : Addr} {xs : List V} (e : H a = some (.tup xs)) : TyOf K H (.ref a) (.type "tuple")
  | dK {a : Addr} {kvs : List (Key × V)} (e : H a = some (.dK kvs)) : TyOf K H (.ref a) (.type "dict")
  | dT {a : Addr} {kvs : List (List Key × V)} (e : H a = some (.dT kvs)) : TyOf K H (.ref a) (.type "dict")
  | ins {a C dx : Addr} {fs : List (Str × V)} (e : H a = some (.ins C dx fs)) (cl : Cls K C) (ha : PySem.W.findIn K (.ref C) "__class__" = some (some (.builtin "object.__class__")))
      (hn : PySem.W.specialIn K (.builtin "object.__class__") "__get__" = some (some (.builtin "getset_descriptor.__get__"))) (htk : PySem.W.takesIn K (.builtin "object.__class__") = some true)
      (hm : PySem.W.mroIn K C (.type "object") = some true) : TyOf K H (.ref a) (.ref C)
end
end L2
namespace L2
open PySem PySem.Spec PyProof.Rows
structure Room (k : Nat) (A : Around) : Prop where
  hd : A.handled = none
  dp : A.depth + 3 * k + 5 < recursionLimit
  un : A.units + 16 * k + 200 < cLine
  gd : A.guards = some []
theorem Room.mono {j k : Nat} {A : Around} (r : Room k A) (h : j ≤ k) : Room j A := ⟨r.hd, by have := r.dp; omega, by have := r.un; omega, r.gd⟩
theorem Room.deeper {k : Nat} {A : Around} (r : Room (k + 1) A) (env : Env) : Room k (A.deeper env) :=
  ⟨r.hd, by have := r.dp; show A.depth + 1 + 3 * k + 5 < _; omega, by have := r.un; show A.units + 3 + 16 * k + 200 < _; omega, r.gd⟩
theorem Room.in1 {k : Nat} {A : Around} (r : Room (k + 1) A) : Room k A.in1 :=
  ⟨r.hd, by have := r.dp; show A.depth + 3 * k + 5 < _; omega, by have := r.un; show A.units + 1 + 16 * k + 200 < _; omega, r.gd⟩
theorem make_depth {A : Around} {C : Addr} {us : List Value} {kw : List (Str × Value)} : (A.under (.builtin "type.__call__" ⟨.ref C :: us, kw⟩)).depth = A.depth + 1 := by
  first | rfl | simp [Around.under, Code.weight, Code.isCreation, Code.isGuard, Code.isCaller, Code.frames, Code.isFrame, guardIds]
theorem Room.depth {k : Nat} {A : Around} (r : Room k A) : A.depth < recursionLimit := by have := r.dp; omega
theorem Room.units {k : Nat} {A : Around} (r : Room k A) : A.units + 64 < cLine := by have := r.un; omega
def tNil : TA := fun _ H Q => Q [] H
def tCons (ta : TE) (tr : TA) : TA := fun σ H Q => ta σ H fun x H1 => tr σ H1 fun xs H2 => Q (x :: xs) H2
section
variable {X : Cx} {e : Expr} {es : List Expr} {te : TE} {t : TA} {pos : Pos}
theorem pa_nil : PA X [] tNil := fun _ _ _ _ H Q I h => Calls.spliced_nil ⟨[], H, I, .nil, h⟩
theorem pa_cons (ha : PE X e te) (hr : PA X es t) (hs : starEach (e :: es) X.env = (false, eval e X.env) :: starEach es X.env := by rfl) : PA X (e :: es) (tCons te t) := by
  intro pos pins s σ H Q I h
  rw [hs]
  show wpAny _ _ (spliced ((false, eval e X.env) :: backTo pos (starEach es X.env))) _ _ s
  refine Calls.spliced_cons (thn (ha pins s σ H _ I h) fun u s1 ⟨x, H1, I1, r1, q1⟩ => ?_)
  exact thn (hr pos pins s1 σ H1 _ I1 q1) fun us s2 ⟨xs, H2, I2, r2, q2⟩ => ⟨x :: xs, H2, I2, .cons r1 r2, q2⟩
def tTup (t : TA) : TE := fun σ H Q => t σ H fun xs H1 => xs.length ≤ sizeLine ∧ ∀ p, H1 p = none → Q (.ref p) (upd H1 p (.tup xs))
def tLst (t : TA) : TE := fun σ H Q => t σ H fun xs H1 => xs.length ≤ sizeLine ∧ ∀ p, H1 p = none → Q (.ref p) (upd H1 p (.lst xs))
theorem pe_tup {x1} (h : PA X es t) : PE X (.Tuple es x1 pos) (tTup t) := by
  intro pins s σ H Q I hq
  refine wpAny_Tuple_spliced (thn (h pos pins s σ H _ I hq) fun us s1 ⟨xs, H1, I1, r, z, q⟩ => ⟨by rw [← r.length]; exact z, ?_⟩)
  have hf : H1 s1.heap.objs.size = none := I1.hok.fresh (Nat.le_refl _)
  refine ⟨.ref s1.heap.objs.size, upd H1 s1.heap.objs.size (.tup xs), I1.laid (t' := s1.toks) (fun b u e => Heap.get?_push_of_some _ e) (Nat.le_refl _) ?_, rfl, q _ hf⟩
  exact ⟨z, us, r, ⟨_, Heap.get?_push_size _ rfl, rfl, _, rfl⟩, _, Heap.get?_push_size _ rfl, rfl⟩
theorem pe_lst (h : PA X es t) : PE X (.List es pos) (tLst t) := by
  intro pins s σ H Q I hq
  refine wpAny_List_spliced (thn (h pos pins s σ H _ I hq) fun us s1 ⟨xs, H1, I1, r, z, q⟩ => ⟨by rw [← r.length]; exact z, ?_⟩)
  have hf : H1 s1.heap.objs.size = none := I1.hok.fresh (Nat.le_refl _)
  refine ⟨.ref s1.heap.objs.size, upd H1 s1.heap.objs.size (.lst xs), I1.laid (t' := s1.toks) (fun b u e => Heap.get?_push_of_some _ e) (Nat.le_refl _) ?_, rfl, q _ hf⟩
  exact ⟨z, us, 0, r, Heap.get?_push_size _ rfl⟩
end
abbrev Sp := List V → Hp → VK → XK → Prop
abbrev CXT := List Env → Hp → Shared → XK → Value → Shared → Prop
structure Env0 (P : Program) (w : World) (K : PySem.W.Frag) (mg : Str → Option Value) (base : Heap) (A : Around) (outer : List Env) (s : Shared) (H : Hp) : Prop where
  frames : A.frames = some outer
  mod : Mod K mg base
  bs : ∀ b o, base.get? b = some o → s.heap.get? b = some o ∧ H b = none
  bsz : base.objs.size ≤ s.heap.objs.size
  funs : s.heap.FunFrames base outer
  frf : ∀ b ∈ frs outer, H b = none
  hok : HOk P w H s.heap
  bare : AllBare s.gens
def CE (outer : List Env) (P : Program) (w : World) (H : Hp) (s : Shared) (Q : VK) (u : Value) (s' : Shared) : Prop :=
  ∃ v H', s'.os = s.os ∧ AllBare s'.gens ∧ Un (frs outer) [] H H' s.heap s'.heap ∧ HOk P w H' s'.heap ∧ RelV v u ∧ Q v H'
def CR (CX : CXT) (outer : List Env) (P : Program) (w : World) (H : Hp) (s : Shared) (Q : VK) (E : XK) (r : Result) (s' : Shared) : Prop :=
  match r with
  | .ok (.ret u) => CE outer P w H s Q u s'
  | .ok _ => False
  | .error e => CX outer H s E e s'
structure FnOk (P : Program) (w : World) (K : PySem.W.Frag) (mg : Str → Option Value) (base : Heap) (CX : CXT) (k : Nat) (f : Addr) (fd : FuncData) (ps : List Str) (sp : Sp) : Prop where
  len : ∀ vs H Q E, sp vs H Q E → vs.length = ps.length
  run : ∀ (A : Around) (outer : List Env) (s : Shared) (H : Hp) (args : Args) (us : List Value) (vs : List V) (Q : VK) (E : XK), Room k A → Env0 P w K mg base A outer s H → BindsTo s fd args (ps.zip us) → Vals vs us → sp vs H Q E →
    codeAny (model P w) A (.call (.ref f) args) (CR CX outer P w H s Q E) s
theorem FnOk.mono {P : Program} {w : World} {K : PySem.W.Frag} {mg : Str → Option Value} {base : Heap} {CX : CXT} {j k : Nat} {f : Addr} {fd : FuncData} {ps : List Str} {sp : Sp} (F : FnOk P w K mg base CX j f fd ps sp) (h : j ≤ k) :
    FnOk P w K mg base CX k f fd ps sp := ⟨F.len, fun A outer s H args us vs Q E hr => F.run A outer s H args us vs Q E (hr.mono h)⟩
theorem Env0.in1 {P : Program} {w : World} {K : PySem.W.Frag} {mg : Str → Option Value} {base : Heap} {A : Around} {outer : List Env} {s : Shared} {H : Hp} (e : Env0 P w K mg base A outer s H) :
    Env0 P w K mg base A.in1 outer s H := ⟨e.frames, e.mod, e.bs, e.bsz, e.funs, e.frf, e.hok, e.bare⟩
section
variable {X : Cx} {pins : List (Addr × Obj)} {σ : St} {H : Hp} {s s' : Shared}
theorem Inv.env0 (I : Inv X pins σ H s) : Env0 X.prog X.w X.K X.mg X.base X.A X.stack s H :=
  ⟨I.ok.frames, I.ok.mod, I.bs, Nat.le_trans I.ok.bsz I.sz, I.stack, I.stkFree, I.hok, I.bare⟩
theorem Inv.after {Q : VK} {u : Value} (I : Inv X pins σ H s) (h : CE X.stack X.prog X.w H s Q u s') : EP X pins σ Q u s' := by
  obtain ⟨v, H', os, bare, un, hok, r, q⟩ := h
  obtain ⟨hh, g, d, t, os'⟩ := s'
  obtain rfl : os' = s.os := os
  exact ⟨v, H', I.call (h' := hh) (g' := g) (d' := d) (t' := t) (ch := []) un hok bare (fun b z => absurd z (by simp)), r, q⟩
end
def tCall (sp : Sp) (dvs : List V) (E : XK) (t : TA) : TE := fun σ H Q => t σ H fun vs H1 => sp (vs ++ dvs) H1 Q E
def Binds (K : PySem.W.Frag) (fd : FuncData) (ps : List Str) (ds : List Value) : Prop :=
  ∀ (s : Shared) (us : List Value), K.In s.heap → (us ++ ds).length = ps.length → BindsTo s fd ⟨us, []⟩ (ps.zip (us ++ ds))
theorem Binds.all {K : PySem.W.Frag} {fd : FuncData} {ps : List Str} (h : ∀ us : List Value, us.length = ps.length → bindArgs fd ⟨us, []⟩ = pure (ps.zip us)) : Binds K fd ps [] := fun s us _ hl => by
  rw [List.append_nil] at hl ⊢
  exact .of_eq (h us hl)
def Passes (CX : CXT) (X : Cx) (E : XK) : Prop := ∀ (pins : List (Addr × Obj)) (σ : St) (H : Hp) (s : Shared) (e : Value) (s' : Shared), Inv X pins σ H s → CX X.stack H s E e s' → X.xe e s'
section
variable {X : Cx} {CX : CXT} {k : Nat} {f C : Addr} {fd : FuncData} {ps : List Str} {sp : Sp} {dvs : List V} {ds : List Value} {E : XK} {x m : Str} {p pos apos : Pos} {e o : Expr} {es : List Expr} {ta : TE} {t : TA}
theorem run_fn {pins : List (Addr × Obj)} {σ : St} {H : Hp} {s : Shared} {Q : VK} {us : List Value} {vs : List V} (F : FnOk X.prog X.w X.K X.mg X.base CX k f fd ps sp) (hr : Room k X.A) (hb : Binds X.K fd ps ds) (hd : Vals dvs ds) (hx : Passes CX X E)
    (I : Inv X pins σ H s) (r : Vals vs us) (h : sp (vs ++ dvs) H Q E) : wpAny (model X.prog X.w) X.A (call (.ref f) us) (EP X pins σ Q) X.xe s := by
  have r2 : Vals (vs ++ dvs) (us ++ ds) := r.append hd
  have hl : (us ++ ds).length = ps.length := by rw [← r2.length]; exact F.len _ _ _ _ h
  refine wpAny_call (codeAny_mono (F.run X.A X.stack s H ⟨us, []⟩ (us ++ ds) (vs ++ dvs) Q E hr I.env0 (hb s us I.kIn hl) r2 h) fun r s' hq => ?_)
  cases r with
  | error e => exact hx pins σ H s e s' I hq
  | ok fl =>
    cases fl with
    | ret u => exact I.after hq
    | next => exact False.elim hq
    | brk => exact False.elim hq
    | cont => exact False.elim hq
theorem pe_call (F : FnOk X.prog X.w X.K X.mg X.base CX k f fd ps sp) (hr : Room k X.A) (hg : Gl X x) (hm : X.mg x = some (.ref f)) (hk : PySem.W.keepIn X.K (.ref f) = true) (hb : Binds X.K fd ps ds) (hd : Vals dvs ds) (hx : Passes CX X E)
    (ha : PA X (e :: es) t) (hdb : (x == ("__debug__" : Str)) = false := by decide) (he : starEach (e :: es) X.env = (false, eval e X.env) :: starEach es X.env := by rfl) (hpl : (backTo pos (starEach es X.env)).any (·.1) = false := by rfl) :
    PE X (.Call (.Name x p) (e :: es) [] pos) (tCall sp dvs E t) := by
  intro pins s σ H Q I h
  refine wpAny_Call_Name_kw (ld_glob I hg hm ?_ hdb)
  refine PySem.W.callWith_K (h₀ := X.base) I.ok.mod.kin hk (thn (ha pos pins s σ H _ I h) fun us s1 ⟨vs, H1, I1, r, q⟩ => ⟨I1.kIn, ?_⟩) he hpl
  exact run_fn F hr hb hd hx I1 r q
structure Mk (K : PySem.W.Frag) (C f : Addr) : Prop where
  makes : PySem.W.makesIn K C = true
  init : PySem.W.findIn K (.ref C) "__init__" = some (some (.ref f))
  fn : PySem.W.isFn K (.ref f) = true
  kp : PySem.W.keepIn K (.ref C) = true
end
def PK (X : Cx) (kws : List Keyword) (t : TA) : Prop :=
  ∀ (pos : Pos) (pins : List (Addr × Obj)) (s : Shared) (σ : St) (H : Hp) (Q : List V → Hp → Prop), Inv X pins σ H s → t σ H Q → wpAny (model X.prog X.w) X.A (evalAll ((backToKw pos (keywordEach kws X.env)).map (·.2))) (AP X pins σ Q) X.xe s
section
variable {X : Cx} {CX : CXT} {k : Nat} {f C : Addr} {fd : FuncData} {ps ks : List Str} {sp : Sp} {E : XK} {x m : Str} {p pos apos kpos : Pos} {e o : Expr} {es : List Expr} {kws : List Keyword} {te ta : TE} {t tk : TA} {nm : Option Str}
theorem pk_nil : PK X [] tNil := fun _ _ _ _ H Q I h => wpAny_evalAll_nil ⟨[], H, I, .nil, h⟩
theorem pk_cons (ha : PE X e te) (hr : PK X kws t) : PK X (⟨nm, e, kpos⟩ :: kws) (tCons te t) := by
  intro pos pins s σ H Q I h
  show wpAny _ _ (evalAll ((do let v ← eval e X.env; standAt pos; pure v) :: (backToKw pos (keywordEach kws X.env)).map (·.2))) _ _ s
  refine wpAny_evalAll_cons (wpAny_bind (thn (ha pins s σ H _ I h) fun u s1 ⟨x, H1, I1, r1, q1⟩ => wpAny_bind (wpAny_standAt (wpAny_pure ?_))))
  exact thn (hr pos pins s1 σ H1 _ I1 q1) fun us s2 ⟨xs, H2, I2, r2, q2⟩ => ⟨x :: xs, H2, I2, .cons r1 r2, q2⟩
structure KBinds (K : PySem.W.Frag) (fd : FuncData) (ps ks : List Str) (g : List Value → List Value → List Value) (gV : List V → List V → List V) : Prop where
  to : ∀ (s : Shared) (us ws : List Value), K.In s.heap → (g us ws).length = ps.length → BindsTo s fd ⟨us, ks.zip ws⟩ (ps.zip (g us ws))
  rel : ∀ {vs : List V} {us : List Value} {zs : List V} {ws : List Value}, Vals vs us → Vals zs ws → Vals (gV vs zs) (g us ws)
variable {g : List Value → List Value → List Value} {gV : List V → List V → List V}
end
structure FnScope (N P : List Str) (sc : Scope) : Prop where
  kind : sc.kind = .function
  co : sc.isCoroutine = false
  gen : sc.isGenerator = false
  nd : N.Nodup
  pre : N.take P.length = P
  par : ∀ x ∈ P, sc.names.lookup x = some .local ∨ sc.names.lookup x = some .cell
  nofree : ∀ y ∈ sc.names, y.2 ≠ .free
theorem bindL_out {kindOf : Str → Option NameKind} {x : Str} : ∀ {binds : List (Str × Value)} {m : Str → Option Value}, (∀ v, (x, v) ∉ binds) → bindL kindOf binds m x = m x
  | [], _, _ => rfl
  | (n, v) :: r, m, h => by
    unfold bindL
    rw [bindL_out fun w hw => h w (List.mem_cons_of_mem _ hw)]
    split
    · have : x ≠ n := by rintro rfl; exact h v List.mem_cons_self
      simp [this]
    · rfl
theorem bindC_out {kindOf : Str → Option NameKind} {x : Str} : ∀ {binds : List (Str × Value)} {m : Str → Option Value}, (∀ v, (x, v) ∉ binds) → bindC kindOf binds m x = m x
  | [], _, _ => rfl
  | (n, v) :: r, m, h => by
    unfold bindC
    rw [bindC_out fun w hw => h w (List.mem_cons_of_mem _ hw)]
    split
    · rfl
    · have : x ≠ n := by rintro rfl; exact h v List.mem_cons_self
      simp [this]
theorem bindL_get {kindOf : Str → Option NameKind} {x : Str} {v : Value} : ∀ {P : List Str} {vs : List Value} {i : Nat} {m : Str → Option Value}, P.Nodup → P[i]? = some x → vs[i]? = some v → kindOf x = some .local →
    bindL kindOf (P.zip vs) m x = some v
  | [], _, _, _, _, h, _, _ => by simp at h
  | _ :: _, [], _, _, _, _, h, _ => by simp at h
  | p :: P, w :: vs, 0, m, nd, h1, h2, hk => by
    simp at h1 h2; subst h1; subst h2
    show bindL kindOf ((p, w) :: P.zip vs) m p = _
    unfold bindL
    rw [bindL_out fun v hv => (List.nodup_cons.mp nd).1 (List.of_mem_zip hv).1, if_pos hk]
    simp
  | p :: P, w :: vs, i + 1, m, nd, h1, h2, hk => by
    show bindL kindOf ((p, w) :: P.zip vs) m x = _
    unfold bindL
    exact bindL_get (i := i) (List.nodup_cons.mp nd).2 (by simpa using h1) (by simpa using h2) hk
theorem bindC_get {kindOf : Str → Option NameKind} {x : Str} {v : Value} : ∀ {P : List Str} {vs : List Value} {i : Nat} {m : Str → Option Value}, P.Nodup → P[i]? = some x → vs[i]? = some v → kindOf x ≠ some .local →
    bindC kindOf (P.zip vs) m x = some v
  | [], _, _, _, _, h, _, _ => by simp at h
  | _ :: _, [], _, _, _, _, h, _ => by simp at h
  | p :: P, w :: vs, 0, m, nd, h1, h2, hk => by
    simp at h1 h2; subst h1; subst h2
    show bindC kindOf ((p, w) :: P.zip vs) m p = _
    unfold bindC
    rw [bindC_out fun v hv => (List.nodup_cons.mp nd).1 (List.of_mem_zip hv).1, if_neg hk]
    simp
  | p :: P, w :: vs, i + 1, m, nd, h1, h2, hk => by
    show bindC kindOf ((p, w) :: P.zip vs) m x = _
    unfold bindC
    exact bindC_get (i := i) (List.nodup_cons.mp nd).2 (by simpa using h1) (by simpa using h2) hk
def start (N : List Str) (vs : List V) : St := vs.map some ++ List.replicate (N.length - vs.length) none
def cxOf (CX : CXT) (P : Program) (w : World) (K : PySem.W.Frag) (mg : Str → Option Value) (base : Heap) (N : List Str) (qual : Str) (scope : Scope) (f : Addr) (cd : Value) (A : Around) (outer : List Env) (s : Shared) (H : Hp) (E : XK) : Cx where
  prog := P
  w := w
  K := K
  mg := mg
  base := base
  A := A.deeper (envOfC qual scope s.heap.objs.size f cd)
  N := N
  s_0 := s
  H_0 := H
  env := envOfC qual scope s.heap.objs.size f cd
  outer := outer
  stack := envOfC qual scope s.heap.objs.size f cd :: outer
  ex := []
  calm := true
  fn := fun _ => true
  pn := []
  xe := fun e s' => wpAny (model P w) (A.deeper (envOfC qual scope s.heap.objs.size f cd)) (leaving (envOfC qual scope s.heap.objs.size f cd) e) (fun _ s'' => CX outer H s E e s'') (fun e' s'' => CX outer H s E e' s'') s'
theorem cell_has {sc : Scope} {n : Nat} {x : Str} (h : sc.names.lookup x = some .cell) : ∃ c, (cellsFrom n sc.names []).lookup x = some c := by
  have q := PySem.W.cellsFrom_some sc.names n [] (.inl h)
  exact Option.isSome_iff_exists.mp q
theorem inv_start {CX : CXT} {P : Program} {w : World} {K : PySem.W.Frag} {mg : Str → Option Value} {base : Heap} {N ps : List Str} {qual : Str} {scope : Scope} {f : Addr} {cd : Value} {A : Around} {outer : List Env} {s s1 : Shared} {H : Hp} {E : XK} {us : List Value} {vs : List V}
    (S : FnScope N ps scope) (hd : A.handled = none) (e0 : Env0 P w K mg base A outer s H) (hl : vs.length = ps.length) (r : Vals vs us)
    (x : InCallC s s.heap.objs.size (bindL (envOfC qual scope s.heap.objs.size f cd).kindOf (ps.zip us) fun _ => none) (cellsFrom (s.heap.objs.size + 1) scope.names []) (bindC (envOfC qual scope s.heap.objs.size f cd).kindOf (ps.zip us) fun _ => none) s1) :
    Inv (cxOf CX P w K mg base N qual scope f cd A outer s H E) [] (start N vs) H s1 := by
  have hpl : ps.length ≤ N.length := by have := congrArg List.length S.pre; rw [List.length_take] at this; omega
  obtain ⟨h1, tk, rfl, hk⟩ := x.done
  have noA : ∀ b : Addr, b ∉ (cxOf CX P w K mg base N qual scope f cd A outer s H E).ex := fun b z => absurd (show b ∈ ([] : List Addr) from z) (by simp)
  refine ⟨⟨e0.mod, S.kind, rfl, rfl, Nat.le_refl _, fun y z c h1 h2 => ?_, fun y hy => ?_, fun y c _ h => ?_, fun _ => hd, Around.frames_deeper e0.frames, .inr ⟨rfl, rfl⟩, fun b z => absurd z (noA b), e0.bs, e0.bsz, fun b _ _ => noA b, fun b z => absurd z (noA b), e0.funs, e0.frf⟩,
    rfl, e0.bare, Un.kept hk, ⟨_, x.toInCall.ns, fun i y v h1 h2 h3 => ?_⟩, fun y c h => ⟨_, x.cell y c h⟩, e0.hok.fresh (Nat.le_refl _), fun y c h => ?_, fun p hp => absurd (show p ∈ ([] : List (Addr × Obj)) from hp) (by simp), e0.hok.kept hk, ?_⟩
  · exact name_of_addr x.apart (PySem.mem_of_lookup h1) (PySem.mem_of_lookup h2)
  · have hy : scope.names.lookup y = some .cell ∨ scope.names.lookup y = some .free := hy
    rcases hy with hy | hy
    · exact cell_has hy
    · exact absurd rfl (S.nofree _ (PySem.mem_of_lookup hy))
  · exact Nat.le_of_lt (x.above y c (PySem.mem_of_lookup h))
  · have hi : i < vs.length := by
      unfold start at h2
      by_cases hi : i < vs.length
      · exact hi
      · rw [List.getElem?_append_right (by simpa using hi)] at h2
        rw [List.getElem?_replicate] at h2
        split at h2 <;> cases h2
    have ha : vs[i]? = some v := by
      unfold start at h2
      rw [List.getElem?_append_left (by simpa using hi), List.getElem?_map] at h2
      cases e : vs[i]? with
      | none => rw [e] at h2; cases h2
      | some a => rw [e] at h2; cases h2; rfl
    obtain ⟨u, hu, rv⟩ := r.get ha
    have hp : ps[i]? = some y := by
      rw [← S.pre, List.getElem?_take_of_lt (by omega)]; exact h1
    have ndP : ps.Nodup := by rw [← S.pre]; exact S.nd.sublist (List.take_sublist _ _)
    refine ⟨u, rv, ?_⟩
    rcases S.par y (List.mem_of_getElem? hp) with k | k
    · exact .inl ⟨k, bindL_get ndP hp hu k⟩
    · obtain ⟨c, e⟩ := cell_has (n := s.heap.objs.size + 1) k
      refine .inr ⟨.inl k, c, e, ?_⟩
      have q := x.cell y c e
      rw [bindC_get ndP hp hu (by show scope.names.lookup y ≠ _; rw [k]; decide)] at q
      exact q
  · exact e0.hok.fresh (Nat.le_of_lt (x.above y c (PySem.mem_of_lookup h)))
  · unfold start
    show _ = N.length
    rw [List.length_append, List.length_map, List.length_replicate]
    omega
theorem fn_of {CX : CXT} {P : Program} {w : World} {K : PySem.W.Frag} {mg : Str → Option Value} {base : Heap} {k : Nat} {f : Addr} {name qual : Str} {params : Arguments} {body : List Stmt} {scope : Scope} {dV kV doc pm cdv ct oc : Value} {an od : Option Addr}
    {osl : Array (Option Value)} {N ps : List Str} {sp : Sp} (lk : K.lookup f = some ⟨oc, od, .func (PySem.W.fnOf name qual params body scope dV kV doc pm an cdv ct), osl⟩) (hcd : PySem.W.codeIn K cdv qual = true) (S : FnScope N ps scope)
    (len : ∀ vs H Q E, sp vs H Q E → vs.length = ps.length)
    (hbody : ∀ (A : Around) (outer : List Env) (s : Shared) (H : Hp) (vs : List V) (Q : VK) (E : XK), Room k (A.deeper (envOfC qual scope s.heap.objs.size f cdv)) → sp vs H Q E →
      ∃ t, PSs (cxOf CX P w K mg base N qual scope f cdv A outer s H E) body t ∧ t { nx := fun _ H' => Q .non H', rt := Q } (start N vs) H) :
    FnOk P w K mg base CX (k + 1) f (PySem.W.fnOf name qual params body scope dV kV doc pm an cdv ct) ps sp := by
  refine ⟨len, fun A outer s H args us vs Q E hr e0 hb r hsp => ?_⟩
  have hl := len _ _ _ _ hsp
  have KX : K.In s.heap := e0.mod.kin.keeps fun b o e => (e0.bs b o e).1
  have lim : s.heap.NoLimit := e0.mod.nolimit.keeps fun b o e => (e0.bs b o e).1
  have hkind : ∀ y ∈ ps.zip us, scope.names.lookup y.1 = some .local ∨ (scope.names.lookup y.1 = some .cell ∧ ((cellsFrom (s.heap.objs.size + 1) scope.names []).lookup y.1).isSome = true) := fun ⟨n, v⟩ hy => by
    rcases S.par n (List.of_mem_zip hy).1 with q | q
    · exact .inl q
    · exact .inr ⟨q, PySem.W.cellsFrom_some _ _ _ (.inl q)⟩
  refine codeAny_call_function hr.depth (KX _ _ lk) rfl S.co S.gen rfl (PySem.W.codeRec_of KX hcd) (hb _ _ _ _ ?_)
  refine wpAny_newFunctionEnv_cells S.kind hkind fun env he s1 x => ?_
  subst he
  refine ⟨lim.keeps x.toInCall.keep, codeAny_func ?_⟩
  obtain ⟨t, ht, hq⟩ := hbody A outer s H vs Q E (hr.deeper _) hsp
  have I : Inv (cxOf CX P w K mg base N qual scope f cdv A outer s H E) [] (start N vs) H s1 := inv_start S hr.hd e0 hl r x
  refine wpAny_mono (ht [] s1 (start N vs) H _ I hq) (fun fl s' hs => ?_) fun e s' hs => hs
  have fin : ∀ {σ' : St} {H' : Hp} {v : V} {u : Value}, Inv (cxOf CX P w K mg base N qual scope f cdv A outer s H E) [] σ' H' s' → RelV v u → Q v H' → CE outer P w H s Q u s' :=
    fun {σ' H' v u} J rv q => ⟨v, H', J.os, J.bare, J.base, J.hok, rv, q⟩
  cases fl with
  | ret u =>
    obtain ⟨v, σ', H', J, rv, q⟩ := hs
    exact fin J rv q
  | next =>
    obtain ⟨σ', H', J, q⟩ := hs
    exact fin (v := V.non) (u := Value.none) J rfl q
  | brk =>
    obtain ⟨_, _, _, q⟩ := hs
    exact False.elim q
  | cont =>
    obtain ⟨_, _, _, q⟩ := hs
    exact False.elim q
end L2
namespace L2
open PySem PySem.Spec PyProof.Rows
section
variable {X : Cx} {x : Str} {p pos : Pos} {e : Expr} {es : List Expr} {t : TA} {id T : String} {r : List V → Hp → VK → Prop}
def tCB (r : List V → Hp → VK → Prop) (t : TA) : TE := fun σ H Q => t σ H fun vs H1 => r vs H1 Q
theorem pe_callB (hc : CallR X (.builtin id) r) (hg : Gl X x) (hm : X.mg x = none) (hv : bootBuiltins x = some (.builtin id)) (ha : PA X (e :: es) t) (hn : x ≠ "__name__" := by decide) (hdb : (x == ("__debug__" : Str)) = false := by decide)
    (he : starEach (e :: es) X.env = (false, eval e X.env) :: starEach es X.env := by rfl) (hpl : (backTo pos (starEach es X.env)).any (·.1) = false := by rfl) : PE X (.Call (.Name x p) (e :: es) [] pos) (tCB r t) := by
  intro pins s σ H Q I h
  refine wpAny_Call_Name_kw (ld_blt I hg hm hv ?_ hn hdb)
  exact PyProof.Rows.callWith_builtin1 (thn (ha pos pins s σ H _ I h) fun us s1 ⟨vs, H1, I1, r1, q1⟩ => hc pins s1 σ H1 vs us Q I1 r1 q1) he hpl
theorem pe_callTy (hc : CallR X (.type T) r) (hg : Gl X x) (hm : X.mg x = none) (hv : bootBuiltins x = some (.type T)) (ha : PA X (e :: es) t) (hn : x ≠ "__name__" := by decide) (hdb : (x == ("__debug__" : Str)) = false := by decide)
    (he : starEach (e :: es) X.env = (false, eval e X.env) :: starEach es X.env := by rfl) (hpl : (backTo pos (starEach es X.env)).any (·.1) = false := by rfl) : PE X (.Call (.Name x p) (e :: es) [] pos) (tCB r t) := by
  intro pins s σ H Q I h
  refine wpAny_Call_Name_kw (ld_blt I hg hm hv ?_ hn hdb)
  exact PyProof.Rows.callWith_type1 (thn (ha pos pins s σ H _ I h) fun us s1 ⟨vs, H1, I1, r1, q1⟩ => hc pins s1 σ H1 vs us Q I1 r1 q1) he hpl
end
end L2
namespace HT
open PySem PyProof.Rows
section
open PySem.SeqAt
open PySem.AutoSeq1 (wpAny_loadPart')
open PySem.MeetsSeq PySem.MeetsSeq2 PySem.MeetsSeq3
end
section
variable {prog : Program} {w : World} {A : Around} {E : Value → Shared → Prop} {s : Shared}
theorem cat_tup {t b : Addr} {vs ws : List Value} {Q : Value → Shared → Prop} (ht : IsTup s.heap t vs.toArray) (hb : IsTup s.heap b ws.toArray) (hv : vs ≠ [])
    (h1 : ws = [] → Q (.ref t) s) (h2 : ws ≠ [] → Q (.ref s.heap.objs.size) { s with heap := s.heap.push { cls := .type "tuple", data := .seq (vs ++ ws).toArray } })
    (hsz : vs.length + ws.length ≤ sizeLine) : wpAny (model prog w) A (binaryOp .Add (.ref t) (.ref b)) Q E s := by
  obtain ⟨⟨cls, dd, data, sl⟩, ho, hc, n, hd⟩ := id ht
  obtain ⟨⟨cls2, dd2, data2, sl2⟩, ho2, hc2, n2, hd2⟩ := id hb
  simp only at hc hd hc2 hd2
  subst hc hd hc2 hd2
  have e : vs.toArray ++ ws.toArray = (vs ++ ws).toArray := by simp
  by_cases hw : ws = []
  · exact concat_meets ⟨_, ho, rfl⟩ ⟨_, ho2, rfl⟩ noFill_tuple_add seq_tuple_add PySem.F.slot_tuple_add PySem.F.entry_tuple_add (PySem.F.args_tuple_add_2 _ _)
      (tuple_addW1 t b vs.toArray ws.toArray n n2 dd dd2 sl sl2 (by simpa using hv) (by simp [hw])) ⟨ho, ho2, h1 hw⟩
  · refine concat_meets ⟨_, ho, rfl⟩ ⟨_, ho2, rfl⟩ noFill_tuple_add seq_tuple_add PySem.F.slot_tuple_add PySem.F.entry_tuple_add (PySem.F.args_tuple_add_2 _ _)
      (tuple_addW2 t b vs.toArray ws.toArray n n2 dd dd2 sl sl2 (by simpa using hv) (by simpa using hw) (by rw [List.size_toArray, List.size_toArray]; exact hsz)) ⟨ho, ho2, ?_⟩
    rw [e]
    exact h2 hw
def sIx (n d : Nat) : Option Int → Nat
  | none => d
  | some v => if v < 0 then (v + (n : Int)).toNat else min v.toNat n
theorem sIx_le (n d : Nat) (hd : d ≤ n) (o : Option Int) : sIx n d o ≤ n := by
  cases o with
  | none => exact hd
  | some v =>
    show (if v < 0 then (v + (n : Int)).toNat else min v.toNat n) ≤ n
    by_cases hv : v < 0
    · rw [if_pos hv]; omega
    · rw [if_neg hv]; exact Nat.min_le_right _ _
theorem clip_eq (v : Int) (n d : Nat) : (if v < 0 then max (v + (n : Int)) 0 else min v (n : Int)) = ((sIx n d (some v) : Nat) : Int) := by
  show (if v < 0 then max (v + (n : Int)) 0 else min v (n : Int)) = (((if v < 0 then (v + (n : Int)).toNat else min v.toNat n) : Nat) : Int)
  by_cases hv : v < 0
  · simp only [if_pos hv]; omega
  · simp only [if_neg hv]; omega
theorem adjust_gen (lo hi : Option Int) (n : Nat) : Builtin.Slice.sliceAdjust lo hi 1 (n : Int) = (((sIx n 0 lo : Nat) : Int), ((sIx n n hi : Nat) : Int)) := by
  have h1 : ¬ ((1 : Int) < 0) := by omega
  unfold Builtin.Slice.sliceAdjust
  simp only [h1, if_false]
  refine Prod.ext ?_ ?_
  · cases lo with
    | none => rfl
    | some v => exact clip_eq v n 0
  · cases hi with
    | none => rfl
    | some v => exact clip_eq v n n
theorem places_gen (i j : Nat) : Builtin.Slice.slicePlaces (i : Int) (j : Int) 1 = j - i := by
  unfold Builtin.Slice.slicePlaces
  have h1 : (1 : Int) > 0 := by omega
  simp only [h1, if_true, Int.ediv_one]
  split <;> omega
theorem slicePart_ {v : Value} {o : Option Int} {Q : Option Int → Shared → Prop} (p : IsPart v o) (h : Q o s) : wpAny (model prog w) A (Builtin.Slice.slicePartIndex v) Q E s := by
  cases p with
  | none => exact slicePart_none h
  | int i t => exact slicePart_int h
theorem sliceApplied_gen {sl : Addr} {vl vu : Value} {lo hi : Option Int} {n : Nat} {Q : Int × Int × Nat → Shared → Prop} (hs : s.heap.IsSliceOf sl vl vu .none) (pl : IsPart vl lo) (pu : IsPart vu hi)
    (h : Q (((sIx n 0 lo : Nat) : Int), 1, sIx n n hi - sIx n 0 lo) s) : wpAny (model prog w) A (Builtin.Slice.sliceApplied (.ref sl) (pure (n : Int))) Q E s := by
  obtain ⟨os, hos, hcs, hds⟩ := id hs
  unfold Builtin.Slice.sliceApplied Builtin.Slice.sliceFields
  refine wpAny_bind (wpAny_bind (wpAny_field hos hds (x := vl) rfl (wpAny_bind (wpAny_field hos hds (x := vu) rfl (wpAny_bind (wpAny_field hos hds (x := .none) rfl (wpAny_pure ?_)))))))
  refine wpAny_bind (slicePart_none ?_)
  show wpAny _ _ (if ((1 : Int) == 0) = true then _ else _) _ _ s
  rw [if_neg (by decide)]
  refine wpAny_bind (slicePart_ pl (wpAny_bind (slicePart_ pu (wpAny_bind (wpAny_pure ?_)))))
  show wpAny _ _ (match Builtin.Slice.sliceAdjust lo hi 1 (n : Int) with | (lo, hi) => pure (lo, (1 : Int), Builtin.Slice.slicePlaces lo hi 1)) _ _ s
  rw [adjust_gen lo hi n]
  show wpAny _ _ (pure (((sIx n 0 lo : Nat) : Int), (1 : Int), Builtin.Slice.slicePlaces ((sIx n 0 lo : Nat) : Int) ((sIx n n hi : Nat) : Int) 1)) _ _ s
  rw [places_gen]
  exact wpAny_pure h
theorem pick_gen (xs : Array Value) (i k : Nat) : ((List.range k).filterMap fun (m : Nat) => xs[((i : Int) + (m : Int) * 1).toNat]?).toArray = ((xs.toList.drop i).take k).toArray := by
  have e : (fun (m : Nat) => xs[((i : Int) + (m : Int) * 1).toNat]?) = fun m => xs[i + m]? := by
    funext m
    have : ((i : Int) + (m : Int) * 1).toNat = i + m := by omega
    rw [this]
  rw [e]
  have := pick_run xs i k
  rw [List.filterMap_map] at this
  have e2 : ((fun x => xs[x]?) ∘ fun x => i + x) = fun m => xs[i + m]? := rfl
  rw [e2] at this
  rw [this]
theorem getItem_tuple_cut {t sl : Addr} {items : Array Value} {vl vu : Value} {lo hi : Option Int} {Q : Value → Shared → Prop} (ht : IsTup s.heap t items) (hs : s.heap.IsSliceOf sl vl vu .none) (pl : IsPart vl lo) (pu : IsPart vu hi)
    (hw : ¬ (sIx items.size 0 lo = 0 ∧ sIx items.size items.size hi = items.size))
    (h : Q (.ref s.heap.objs.size) { s with heap := s.heap.push { cls := .type "tuple", data := .seq ((items.toList.drop (sIx items.size 0 lo)).take (sIx items.size items.size hi - sIx items.size 0 lo)).toArray } })
    (hsz : items.size ≤ sizeLine) : wpAny (model prog w) A (getItem (.ref t) (.ref sl)) Q E s := by
  have htake : sizeOk (.seq ((items.toList.drop (sIx items.size 0 lo)).take (sIx items.size items.size hi - sIx items.size 0 lo)).toArray) := by
    show ((items.toList.drop (sIx items.size 0 lo)).take (sIx items.size items.size hi - sIx items.size 0 lo)).toArray.size ≤ sizeLine
    rw [List.size_toArray, List.length_take, List.length_drop, Array.length_toList]
    omega
  have hj : sIx items.size items.size hi ≤ items.size := sIx_le _ _ (Nat.le_refl _) hi
  obtain ⟨os, hos, hcs, hds⟩ := id hs
  have hTs : s.TypeIs (.ref sl) "slice" := ⟨os, hos, hcs⟩
  unfold getItem
  try with_reducible refine wpAny_holding ?_
  first | refine wpAny_bind (wpAny_pure ?_) | skip
  refine wpAny_bind (wpAny_sequenceKey ht.typeIs (by decide) ?_)
  refine wpAny_bind (wpAny_callSpecial?_slot (name := Str.ofString "__getitem__") ht.typeIs PyProof.Rows.slot_tuple_getitem
    (wpAny_call_entry PyProof.Rows.slot_tuple_getitem ht.typeIs entry_tuple_getitem ?_ (args_tuple_getitem _ _)))
  show wpAny _ _ (Builtin.Tuple.tupleItemsOf (.ref t) >>= _) _ _ s
  refine wpAny_bind (tupleItemsOf_ ht ?_)
  refine wpAny_bind (wpAny_typeOf hTs ?_)
  rw [if_pos (by decide)]
  refine wpAny_bind (sliceApplied_gen hs pl pu ?_)
  have hno : ¬ ((((sIx items.size 0 lo : Nat) : Int) == 0 && (1 : Int) == 1 && (sIx items.size items.size hi - sIx items.size 0 lo) == items.size) = true) := by
    intro q
    rw [Bool.and_eq_true, Bool.and_eq_true] at q
    have q1 : ((sIx items.size 0 lo : Nat) : Int) = 0 := eq_of_beq q.1.1
    have q2 : sIx items.size items.size hi - sIx items.size 0 lo = items.size := eq_of_beq q.2
    exact hw ⟨by omega, by omega⟩
  show wpAny _ _ (if (((sIx items.size 0 lo : Nat) : Int) == 0 && (1 : Int) == 1 && (sIx items.size items.size hi - sIx items.size 0 lo) == items.size) = true then _ else _) _ _ s
  rw [if_neg hno, pick_gen]
  first
    | exact wpAny_bind (m := Builtin.Tuple.tupleExact _) (wpAny_newObj_type (wpAny_pure ⟨_, rfl, wpAny_pure h⟩) htake)
    | exact wpAny_bind (m := Builtin.Tuple.tupleExact _) (wpAny_newObj_type (wpAny_bind (wpAny_pure (wpAny_pure ⟨_, rfl, wpAny_pure h⟩))) htake)
    | exact wpAny_bind (wpAny_bind (m := Builtin.Tuple.tupleExact _) (wpAny_newObj_type (wpAny_pure (wpAny_pure ⟨_, rfl, wpAny_pure h⟩)) htake))
    | exact wpAny_bind (wpAny_bind (m := Builtin.Tuple.tupleExact _) (wpAny_newObj_type (wpAny_pure ⟨_, rfl, wpAny_pure h⟩) htake))
end
end HT
namespace L2
open PySem PySem.Spec PyProof.Rows
abbrev TO := St → Hp → (Option Int → Hp → Prop) → Prop
def PO (X : Cx) (e : Option Expr) (t : TO) : Prop :=
  ∀ (pins : List (Addr × Obj)) (s : Shared) (σ : St) (H : Hp) (Q : Option Int → Hp → Prop), Inv X pins σ H s → t σ H Q →
    wpAny (model X.prog X.w) X.A (evalPart e X.env) (fun u s' => ∃ o H', Inv X pins σ H' s' ∧ IsPart u o ∧ Q o H') X.xe s
def tNoPart : TO := fun _ H Q => Q none H
def tPart (t : TE) : TO := fun σ H Q => t σ H fun x H1 => ∃ i, x = .int i ∧ Q (some i) H1
section
variable {X : Cx} {e : Expr} {te : TE} {lo hi : Option Expr} {tl th : TO} {pos p2 : Pos}
theorem po_none : PO X none tNoPart := by
  intro pins s σ H Q I h
  rw [evalPart_none]
  exact wpAny_pure ⟨none, H, I, .none, h⟩
theorem po_some (h : PE X e te) : PO X (some e) (tPart te) := by
  intro pins s σ H Q I hw
  rw [evalPart_some]
  refine thn (h pins s σ H _ I hw) fun u s1 ⟨x, H1, I1, r1, q1⟩ => ?_
  obtain ⟨i, rfl, q⟩ := q1
  obtain ⟨t, rfl⟩ := r1
  exact ⟨some i, H1, I1, .int i t, q⟩
def SlR (X : Cx) (r : V → Option Int → Option Int → Hp → VK → Prop) : Prop :=
  ∀ (pins : List (Addr × Obj)) (s : Shared) (σ : St) (H : Hp) (x : V) (v vl vu : Value) (lo hi : Option Int) (sl : Addr) (Q : VK), Inv X pins σ H s → RelV x v → s.heap.IsSliceOf sl vl vu .none → IsPart vl lo → IsPart vu hi → r x lo hi H Q →
    ∃ T id, typeLookup (.type T) "__getitem__" = pure (some (.builtin id)) ∧ s.TypeIs v T ∧ wpAny (model X.prog X.w) X.A (getItem v (.ref sl)) (EP X pins σ Q) X.xe s
theorem SlR.or {r r' : V → Option Int → Option Int → Hp → VK → Prop} (h : SlR X r) (h' : SlR X r') : SlR X (fun x lo hi H Q => r x lo hi H Q ∨ r' x lo hi H Q) := by
  intro pins s σ H x v vl vu lo hi sl Q I rx hs pl pu q
  rcases q with q | q
  · exact h pins s σ H x v vl vu lo hi sl Q I rx hs pl pu q
  · exact h' pins s σ H x v vl vu lo hi sl Q I rx hs pl pu q
def tSl (r : V → Option Int → Option Int → Hp → VK → Prop) (te : TE) (tl th : TO) : TE := fun σ H Q => te σ H fun x H1 => tl σ H1 fun l H2 => th σ H2 fun u H3 => r x l u H3 Q
theorem pe_slice {r : V → Option Int → Option Int → Hp → VK → Prop} (hr : SlR X r) (he : PE X e te) (hl : PO X lo tl) (hu : PO X hi th) : PE X (.Subscript e (.Slice lo hi none p2) pos) (tSl r te tl th) := by
  intro pins s σ H Q I h
  refine Subscript_ (thn (he pins s σ H _ I h) fun v s1 ⟨x, H1, I1, r1, q1⟩ => ?_)
  refine wpAny_Slice (thn (hl pins s1 σ H1 _ I1 q1) fun vl s2 ⟨l, H2, I2, pl, q2⟩ => thn (hu pins s2 σ H2 _ I2 q2) fun vu s3 ⟨u, H3, I3, pu, q3⟩ => ?_)
  rw [evalPart_none]
  refine wpAny_pure ?_
  have I4 : Inv X pins σ H3 { s3 with heap := s3.heap.push { cls := .type "slice", data := .fields #[vl, vu, .none] } } := I3.kept (t' := s3.toks) fun b ob q => Heap.get?_push_of_some _ q
  obtain ⟨T, id, hT, ht, hg⟩ := hr pins { s3 with heap := s3.heap.push { cls := .type "slice", data := .fields #[vl, vu, .none] } } σ H3 x v vl vu l u s3.heap.objs.size Q I4 r1 (Heap.IsSliceOf.new ..) pl pu q3
  show wpAny (model X.prog X.w) X.A (subscriptTail e (.Slice lo hi none p2) v (.ref s3.heap.objs.size)) (EP X pins σ Q) X.xe { s3 with heap := s3.heap.push { cls := .type "slice", data := .fields #[vl, vu, .none] } }
  exact tail_any (ops := [.ref s3.heap.objs.size, v]) ht hT hg (by with_unfolding_all rfl)
def cutV (xs : List V) (lo hi : Option Int) : List V := (xs.drop (HT.sIx xs.length 0 lo)).take (HT.sIx xs.length xs.length hi - HT.sIx xs.length 0 lo)
theorem cutV_length (xs : List V) (lo hi : Option Int) : (cutV xs lo hi).length ≤ xs.length := by
  unfold cutV
  rw [List.length_take, List.length_drop]
  omega
def rSlT (K : PySem.W.Frag) : V → Option Int → Option Int → Hp → VK → Prop := fun x lo hi H Q => ∃ a xs, x = .ref a ∧ SqT K H a xs ∧
  ¬ (HT.sIx xs.length 0 lo = 0 ∧ HT.sIx xs.length xs.length hi = xs.length) ∧ ∀ p, H p = none → Q (.ref p) (upd H p (.tup (cutV xs lo hi)))
theorem sl_tup : SlR X (rSlT X.K) := by
  intro pins s σ H x v vl vu lo hi sl Q I rx hs pl pu h
  obtain ⟨a, xs, rfl, hx, hw, q⟩ := h
  cases rx
  obtain ⟨its, r, ht, hz⟩ := I.tuple hx
  have hlen : its.toArray.size = xs.length := by rw [List.size_toArray]; exact r.length.symm
  refine ⟨"tuple", _, PyProof.Rows.slot_tuple_getitem.lookup, ht.typeIs, ?_⟩
  refine HT.getItem_tuple_cut ht hs pl pu (by rw [hlen]; exact hw) ?_ (by rw [hlen]; exact hz)
  rw [hlen]
  refine ⟨.ref s.heap.objs.size, _, I.laid (t' := s.toks) (o := .tup (cutV xs lo hi)) (fun b ob q => Heap.get?_push_of_some _ q) (Nat.le_refl _) ?_, rfl, q _ (I.hok.fresh (Nat.le_refl _))⟩
  exact ⟨Nat.le_trans (cutV_length xs lo hi) hz, _, (r.drop (HT.sIx xs.length 0 lo)).take (HT.sIx xs.length xs.length hi - HT.sIx xs.length 0 lo), IsTup.new _ _, _, Heap.get?_push_size _ rfl, rfl⟩
def rCatT (K : PySem.W.Frag) : R2 := fun x y H Q => ∃ a b xs ys, x = .ref a ∧ y = .ref b ∧ SqT K H a xs ∧ SqT K H b ys ∧ xs ≠ [] ∧ xs.length + ys.length ≤ sizeLine ∧
  (ys = [] → Q (.ref a) H) ∧ (ys ≠ [] → ∀ p, H p = none → Q (.ref p) (upd H p (.tup (xs ++ ys))))
theorem Vals.nil_iff {xs : List V} {us : List Value} (r : Vals xs us) : us = [] ↔ xs = [] := by
  cases r with
  | nil => simp
  | cons _ _ => simp
theorem op_catT : OpR X (binaryOp .Add) (rCatT X.K) := by
  intro pins s σ H x y v u Q I rx ry h
  obtain ⟨a, b, xs, ys, rfl, rfl, ha, hb, hx, hz, q1, q2⟩ := h
  cases rx
  cases ry
  obtain ⟨its, r1, p1, _⟩ := I.tuple ha
  obtain ⟨its2, r2, p2, _⟩ := I.tuple hb
  refine HT.cat_tup p1 p2 (fun z => hx (r1.nil_iff.mp z)) (fun z => ⟨.ref a, H, I, rfl, q1 (r2.nil_iff.mp z)⟩) (fun z => ?_) (by rw [← r1.length, ← r2.length]; exact hz)
  refine ⟨.ref s.heap.objs.size, _, I.laid (t' := s.toks) (o := .tup (xs ++ ys)) (fun b ob q => Heap.get?_push_of_some _ q) (Nat.le_refl _) ?_, rfl, q2 (fun w => z (r2.nil_iff.mpr w)) _ (I.hok.fresh (Nat.le_refl _))⟩
  exact ⟨by rw [List.length_append]; exact hz, _, r1.append r2, IsTup.new _ _, _, Heap.get?_push_size _ rfl, rfl⟩
end
end L2
namespace L2
open PySem PySem.Spec PyProof.Rows
def ixN (n : Nat) (i : Int) : Option Nat := if 0 ≤ i then (if i < n then some i.toNat else none) else if -(n : Int) ≤ i then some (i + n).toNat else none
def atI {α : Type} (xs : List α) (i : Int) : Option α := (ixN xs.length i).bind fun j => xs[j]?
theorem ixN_seq {n : Nat} {i : Int} {j : Nat} (h : ixN n i = some j) : seqIndex? i n = some j ∧ j < n ∧ -(n : Int) ≤ i ∧ i < n := by
  unfold ixN at h
  by_cases h0 : 0 ≤ i
  · rw [if_pos h0] at h
    by_cases h1 : i < n
    · rw [if_pos h1] at h
      have e : i.toNat = j := Option.some.inj h
      exact ⟨by rw [seqIndex_of h0 h1, e], by omega, by omega, h1⟩
    · rw [if_neg h1] at h; cases h
  · rw [if_neg h0] at h
    by_cases h1 : -(n : Int) ≤ i
    · rw [if_pos h1] at h
      have e : (i + n).toNat = j := Option.some.inj h
      exact ⟨by rw [seqIndex_neg (by omega) h1, e], by omega, h1, by omega⟩
    · rw [if_neg h1] at h; cases h
theorem atI_get {α : Type} {xs : List α} {i : Int} {v : α} (h : atI xs i = some v) : ∃ j, seqIndex? i xs.length = some j ∧ xs[j]? = some v ∧ j < xs.length ∧ -(xs.length : Int) ≤ i ∧ i < xs.length := by
  unfold atI at h
  cases e : ixN xs.length i with
  | none => rw [e] at h; cases h
  | some j =>
    rw [e] at h
    obtain ⟨h1, h2, h3, h4⟩ := ixN_seq e
    exact ⟨j, h1, h, h2, h3, h4⟩
def PlainIx (b : Expr) : Prop := ∀ o i, subscripted b false o i = operate [o, i] (getItem o i)
def IxR (X : Cx) (r : R2) : Prop :=
  ∀ (value slice : Expr) (pins : List (Addr × Obj)) (s : Shared) (σ : St) (H : Hp) (x y : V) (v u : Value) (Q : VK), Inv X pins σ H s → RelV x v → RelV y u → r x y H Q →
    subscripted slice false v u = operate [v, u] (getItem v u) → wpAny (model X.prog X.w) X.A (subscriptTail value slice v u) (EP X pins σ Q) X.xe s
def MtR (X : Cx) (id : String) (r : V → List V → Hp → VK → Prop) : Prop :=
  ∀ (pins : List (Addr × Obj)) (s : Shared) (σ : St) (H : Hp) (x : V) (xs : List V) (v : Value) (us : List Value) (Q : VK), Inv X pins σ H s → RelV x v → Vals xs us → r x xs H Q →
    wpAny (model X.prog X.w) X.A (call (.builtin id) (v :: us)) (EP X pins σ Q) X.xe s
section
variable {X : Cx} {a b : Expr} {ta tb : TE} {pos : Pos}
theorem IxR.or {r r' : R2} (h : IxR X r) (h' : IxR X r') : IxR X (fun x y H Q => r x y H Q ∨ r' x y H Q) := by
  intro value slice pins s σ H x y v u Q I rx ry q hs
  rcases q with q | q
  · exact h value slice pins s σ H x y v u Q I rx ry q hs
  · exact h' value slice pins s σ H x y v u Q I rx ry q hs
theorem MtR.or {id : String} {r r' : V → List V → Hp → VK → Prop} (h : MtR X id r) (h' : MtR X id r') : MtR X id (fun x xs H Q => r x xs H Q ∨ r' x xs H Q) := by
  intro pins s σ H x xs v us Q I rx rs q
  rcases q with q | q
  · exact h pins s σ H x xs v us Q I rx rs q
  · exact h' pins s σ H x xs v us Q I rx rs q
theorem pe_ix {r : R2} (hr : IxR X r) (ha : PE X a ta) (hb : PE X b tb) (hs : PlainIx b) : PE X (.Subscript a b pos) (tOp r ta tb) := by
  intro pins s σ H Q I h
  exact Subscript_ (binT ha hb I h fun v u s2 x y H2 I2 rx ry q => hr a b pins s2 σ H2 x y v u Q I2 rx ry q (hs _ _))
def rIxL (K : PySem.W.Frag) : R2 := fun x y H Q => ∃ p xs i v, x = .ref p ∧ y = .int i ∧ SqL K H p xs ∧ atI xs i = some v ∧ Q v H
def rIxT (K : PySem.W.Frag) : R2 := fun x y H Q => ∃ p xs i v, x = .ref p ∧ y = .int i ∧ SqT K H p xs ∧ atI xs i = some v ∧ Q v H
theorem ix_list : IxR X (rIxL X.K) := by
  intro value slice pins s σ H x y v u Q I rx ry h hs
  obtain ⟨p, xs, i, z, rfl, rfl, hq, he, q⟩ := h
  cases rx
  obtain ⟨t, rfl⟩ := ry
  obtain ⟨its, r, pl, hz⟩ := I.list hq
  obtain ⟨j, h1, h2, h3, h4, h5⟩ := atI_get he
  obtain ⟨w, ew, rw'⟩ := r.get h2
  have hl := r.length
  have hn := line63
  have fin : EP X pins σ Q w s := ⟨z, H, I, rw', q⟩
  by_cases h0 : 0 ≤ i
  · have hj : i.toNat = j := by
      rw [seqIndex_of h0 h5] at h1
      exact Option.some.inj h1
    exact item_listR pl.isList h0 (by omega) (by rw [hj]; simpa using ew) fin hs
  · have hj : (i + (its.toArray.size : Int)).toNat = j := by
      rw [seqIndex_neg (by omega) h4] at h1
      rw [List.size_toArray, ← hl]
      exact Option.some.inj h1
    exact subscriptTail_builtinR (x := w) pl.isList.typeIs slot_list_getitem.lookup
      (wpAny_getItem_list_neg (Q := fun r s' => r = w ∧ EP X pins σ Q r s') pl.isList (by omega) (by rw [List.size_toArray] <;> omega) (by omega) (by rw [hj]; simpa using ew) ⟨rfl, fin⟩) hs
theorem ix_tup : IxR X (rIxT X.K) := by
  intro value slice pins s σ H x y v u Q I rx ry h hs
  obtain ⟨p, xs, i, z, rfl, rfl, hq, he, q⟩ := h
  cases rx
  obtain ⟨t, rfl⟩ := ry
  obtain ⟨its, r, pl, hz⟩ := I.tuple hq
  obtain ⟨j, h1, h2, h3, h4, h5⟩ := atI_get he
  obtain ⟨w, ew, rw'⟩ := r.get h2
  have hl := r.length
  have hn := line63
  have fin : EP X pins σ Q w s := ⟨z, H, I, rw', q⟩
  exact subscriptTail_builtinR (x := w) pl.typeIs slot_tuple_getitem.lookup
    (getItem_tuple (j := j) (Q := fun r s' => r = w ∧ EP X pins σ Q r s') pl (by omega) (by omega) (by rw [List.size_toArray, ← hl]; exact h1) (by simpa using ew) ⟨rfl, fin⟩) hs
theorem mapSeq_set (its : List Value) (n j : Nat) (u : Value) : Obj.mapSeq (·.setIfInBounds j u) { cls := .type "list", data := .seq its.toArray n } = { cls := .type "list", data := .seq (its.set j u).toArray n } := by
  simp [Obj.mapSeq]
theorem Inv.lst {pins : List (Addr × Obj)} {σ : St} {H : Hp} {s : Shared} {p : Addr} {xs : List V} (I : Inv X pins σ H s) (h : H p = some (.lst xs)) :
    ∃ (its : List Value) (n : Nat), Vals xs its ∧ s.heap.get? p = some { cls := .type "list", data := .seq its.toArray n } ∧ xs.length ≤ sizeLine := by
  obtain ⟨z, its, n, r, e⟩ := I.hok p _ h
  exact ⟨its, n, r, e, z⟩
theorem Inv.lstUpd {pins : List (Addr × Obj)} {σ : St} {H : Hp} {s : Shared} {p : Addr} {xs ys : List V} {its its' : List Value} {n n' : Nat} {f : Obj → Obj} (I : Inv X pins σ H s) (h : H p = some (.lst xs))
    (ho : s.heap.get? p = some { cls := .type "list", data := .seq its.toArray n }) (hf : f { cls := .type "list", data := .seq its.toArray n } = { cls := .type "list", data := .seq its'.toArray n' }) (r : Vals ys its') (hz : ys.length ≤ sizeLine) (t : Nat) :
    Inv X pins σ (upd H p (.lst ys)) { s with heap := s.heap.update p f, toks := t } := by
  have e : (s.heap.update p f).get? p = some { cls := .type "list", data := .seq its'.toArray n' } := by
    rw [Heap.get?_update_self f ho (by rw [hf] <;> rfl), hf]
  refine I.write (x := p) (e := p) (by rw [h]; trivial) (.inl rfl) (fun b u hb q => (Heap.get?_update_other _ _ (Ne.symm hb)).trans q) ⟨_, e⟩ ?_
  exact ⟨hz, its', n', r, e⟩
def rSetL : V → V → V → Hp → (Hp → Prop) → Prop := fun o i v H Q => ∃ p xs k j, o = .ref p ∧ i = .int k ∧ H p = some (.lst xs) ∧ ixN xs.length k = some j ∧ Q (upd H p (.lst (xs.set j v)))
theorem set_list : PSet X rSetL := by
  intro pins s σ H o i v ov iv u Q I ro ri rv h
  obtain ⟨p, xs, k, j, rfl, rfl, hp, hj, q⟩ := h
  cases ro
  obtain ⟨t, rfl⟩ := ri
  obtain ⟨its, n, r, ho, hz⟩ := I.lst hp
  obtain ⟨h1, h2, h3, h4⟩ := ixN_seq hj
  have hl := r.length
  have hn := line63
  have I' : Inv X pins σ (upd H p (.lst (xs.set j v))) { s with heap := s.heap.update p (Obj.mapSeq (·.setIfInBounds j u)) } :=
    I.lstUpd hp ho (mapSeq_set its n j u) (r.set rv j) (by rw [List.length_set]; exact hz) s.toks
  by_cases h0 : 0 ≤ k
  · have hk : k.toNat = j := by
      rw [seqIndex_of h0 h4] at h1
      exact Option.some.inj h1
    exact PySem.W.ki_setAt ho h0 (by omega) (by rw [List.size_toArray, ← hl]; exact h4) (by rw [hk]; exact ⟨_, I', q⟩)
  · have hk : (k + (its.toArray.size : Int)).toNat = j := by
      rw [seqIndex_neg (by omega) h3] at h1
      rw [List.size_toArray, ← hl]
      exact Option.some.inj h1
    exact PySem.W.ki_setBack ho (by omega) (by rw [List.size_toArray, ← hl]; exact h3) (by omega) (by rw [hk]; exact ⟨_, I', q⟩)
theorem slice_bounds (lo hi : Option Int) (n : Nat) : (sliceBounds lo hi none n).1 = ((HT.sIx n 0 lo : Nat) : Int) ∧ (sliceBounds lo hi none n).2.1 = ((HT.sIx n n hi : Nat) : Int) ∧ (sliceBounds lo hi none n).2.2 = 1 := by
  refine ⟨?_, ?_, rfl⟩
  · cases lo with
    | none => simp [sliceBounds, HT.sIx]
    | some i =>
      simp only [sliceBounds, HT.sIx, Option.getD_none, show (1 : Int) > 0 by decide, if_true]
      by_cases h : i < 0
      · simp only [h, if_true] <;> omega
      · simp only [h, if_false] <;> omega
  · cases hi with
    | none => simp [sliceBounds, HT.sIx]
    | some i =>
      simp only [sliceBounds, HT.sIx, Option.getD_none, show (1 : Int) > 0 by decide, if_true]
      by_cases h : i < 0
      · simp only [h, if_true] <;> omega
      · simp only [h, if_false] <;> omega
theorem slicePick_cut (its : List Value) (lo hi : Option Int) : slicePick its.toArray lo hi none = ((its.drop (HT.sIx its.length 0 lo)).take (HT.sIx its.length its.length hi - HT.sIx its.length 0 lo)).toArray := by
  obtain ⟨h1, h2, h3⟩ := slice_bounds lo hi its.toArray.size
  unfold slicePick
  rw [h1, h2, h3]
  simp only [sliceRange_one, pick_run, List.size_toArray] <;> rfl
def rSlL (K : PySem.W.Frag) : V → Option Int → Option Int → Hp → VK → Prop := fun x lo hi H Q => ∃ a xs, x = .ref a ∧ SqL K H a xs ∧ ∀ p, H p = none → Q (.ref p) (upd H p (.lst (cutV xs lo hi)))
theorem sl_list : SlR X (rSlL X.K) := by
  intro pins s σ H x v vl vu lo hi sl Q I rx hs pl pu h
  obtain ⟨a, xs, rfl, hx, q⟩ := h
  cases rx
  obtain ⟨its, r, ht, hz⟩ := I.list hx
  have hlen := r.length
  refine ⟨"list", _, slot_list_getitem.lookup, ht.isList.typeIs, ?_⟩
  refine wpAny_getItem_list_slice ht.isList hs pl pu .none (by simp) ?_ (by rw [List.size_toArray] <;> omega)
  rw [slicePick_cut, ← hlen]
  refine ⟨.ref s.heap.objs.size, _, I.laid (t' := s.toks) (o := .lst (cutV xs lo hi)) (fun b ob q => Heap.get?_push_of_some _ q) (Nat.le_refl _) ?_, rfl, q _ (I.hok.fresh (Nat.le_refl _))⟩
  exact ⟨Nat.le_trans (cutV_length xs lo hi) hz, _, 0, (r.drop (HT.sIx xs.length 0 lo)).take (HT.sIx xs.length xs.length hi - HT.sIx xs.length 0 lo), Heap.get?_push_size _ rfl⟩
theorem call_len_seq : CallR X (.builtin "len") (fun xs H Q => ∃ p ys, xs = [.ref p] ∧ (SqL X.K H p ys ∨ SqT X.K H p ys) ∧ Q (.int ys.length) H) := by
  intro pins s σ H xs us Q I r h
  obtain ⟨p, ys, rfl, hq, q⟩ := h
  obtain ⟨u, rfl, rx⟩ := vals1 r
  cases rx
  have hn := line63
  rcases hq with hq | hq
  · obtain ⟨its, r', pl, hz⟩ := I.list hq
    have hlen := r'.length
    exact Calls.call_len_list pl.isList (by simp only [List.size_toArray] <;> omega) ⟨.int ys.length, H, I.tok _, ⟨s.toks + 1, by rw [List.size_toArray, hlen]⟩, q⟩
  · obtain ⟨its, r', pl, hz⟩ := I.tuple hq
    have hlen := r'.length
    exact len_tuple pl (by simp only [List.size_toArray] <;> omega) ⟨.int ys.length, H, I.tok _, ⟨s.toks + 1, by rw [List.size_toArray, hlen]⟩, q⟩
theorem CallR.or {f : Value} {r r' : List V → Hp → VK → Prop} (h : CallR X f r) (h' : CallR X f r') : CallR X f (fun xs H Q => r xs H Q ∨ r' xs H Q) := by
  intro pins s σ H xs us Q I rs q
  rcases q with q | q
  · exact h pins s σ H xs us Q I rs q
  · exact h' pins s σ H xs us Q I rs q
theorem call_list_of : CallR X (.type "list") (fun xs H Q => ∃ p ys, xs = [.ref p] ∧ (SqL X.K H p ys ∨ SqT X.K H p ys) ∧ ∀ l, H l = none → Q (.ref l) (upd H l (.lst ys))) := by
  intro pins s σ H xs us Q I r h
  obtain ⟨p, ys, rfl, hq, q⟩ := h
  obtain ⟨u, rfl, rx⟩ := vals1 r
  cases rx
  have fin : ∀ (its : List Value), Vals ys its → ys.length ≤ sizeLine → ∀ (h' : Heap) (c' : Nat), (∀ b o', s.heap.get? b = some o' → h'.get? b = some o') →
      h'.get? s.heap.objs.size = some { cls := .type "list", dict := none, data := .seq its.toArray c', slots := #[] } → EP X pins σ Q (.ref s.heap.objs.size) { s with heap := h' } := fun its r' hz h' c' kp e =>
    ⟨.ref s.heap.objs.size, _, I.laid (t' := s.toks) kp (Nat.le_refl _) (show ObjOk X.prog X.w _ h' _ (.lst ys) from ⟨hz, its, c', r', e⟩), rfl, q _ (I.hok.fresh (Nat.le_refl _))⟩
  rcases hq with hq | hq
  · obtain ⟨its, r', pl, hz⟩ := I.list hq
    have hlen := r'.length
    obtain ⟨o, ho, hc, n, hd⟩ := pl.isList
    exact call_list_seq p (.inl rfl) ho hc hd (fun h' c' kp e => fin its r' hz h' c' kp e) (by simp only [List.size_toArray] <;> omega)
  · obtain ⟨its, r', pl, hz⟩ := I.tuple hq
    have hlen := r'.length
    obtain ⟨o, ho, hc, n, hd⟩ := pl
    exact call_list_seq p (.inr rfl) ho hc hd (fun h' c' kp e => fin its r' hz h' c' kp e) (by simp only [List.size_toArray] <;> omega)
def tyV (K : PySem.W.Frag) (T : String) (x : V) (H : Hp) : Prop := match x with
  | .str _ => T = "str"
  | .int _ => T = "int"
  | .ref p => (T = "list" ∧ ∃ xs, SqL K H p xs) ∨ (T = "tuple" ∧ ∃ o, K.lookup p = some o ∧ o.cls = .type "tuple" ∧ o.dict = none) ∨
      (T = "dict" ∧ ((∃ kvs, H p = some (.dK kvs)) ∨ ∃ kvs, H p = some (.dT kvs))) ∨ (T = "set" ∧ ∃ S n, H p = some (.set S n))
  | _ => False
theorem tyV_is {pins : List (Addr × Obj)} {σ : St} {H : Hp} {s : Shared} {T : String} {x : V} {v : Value} (I : Inv X pins σ H s) (r : RelV x v) (ty : tyV X.K T x H) :
    s.TypeIs v T ∧ ∀ a, v = .ref a → ∃ ob, s.heap.get? a = some ob ∧ ob.dict = none := by
  cases x with
  | str z =>
    obtain ⟨t, rfl⟩ := r
    cases (show T = "str" from ty)
    exact ⟨typeIs_str s z t, fun _ e => nomatch e⟩
  | int i =>
    obtain ⟨t, rfl⟩ := r
    cases (show T = "int" from ty)
    exact ⟨typeIs_int s i t, fun _ e => nomatch e⟩
  | ref p =>
    cases r
    rcases ty with ⟨rfl, xs, hq⟩ | ⟨rfl, o, hk, hc, hd⟩ | ⟨rfl, hk⟩ | ⟨rfl, S, n, hk⟩
    · obtain ⟨its, _, pl, _⟩ := I.list hq
      refine ⟨pl.isList.typeIs, fun a e => ?_⟩
      cases e
      obtain ⟨o, n, e, c, hd, _⟩ := pl
      exact ⟨o, e, hd⟩
    · refine ⟨⟨o, I.kIn p o hk, hc⟩, fun a e => ?_⟩
      cases e
      exact ⟨o, I.kIn _ o hk, hd⟩
    · have z : ∃ o, s.heap.get? p = some o ∧ o.ExactDict := by
        rcases hk with ⟨kvs, hk⟩ | ⟨kvs, hk⟩
        · obtain ⟨_, _, _, _, o, _, _, e, ex, _⟩ := I.hok p _ hk
          exact ⟨o, e, ex⟩
        · obtain ⟨_, _, _, _, o, _, _, e, ex, _⟩ := I.hok p _ hk
          exact ⟨o, e, ex⟩
      obtain ⟨o, e, ex⟩ := z
      refine ⟨⟨o, e, ex.1⟩, fun a e2 => ?_⟩
      cases e2
      exact ⟨o, e, ex.2.1⟩
    · obtain ⟨o, _, _, _, e, ex, _⟩ := I.hok p _ hk
      refine ⟨⟨o, e, ex.1⟩, fun a e2 => ?_⟩
      cases e2
      exact ⟨o, e, ex.2.1⟩
  | _ => exact False.elim ty
def tBM (K : PySem.W.Frag) (T : String) (r : V → List V → Hp → VK → Prop) (to : TE) (t : TA) : TE := fun σ H Q => to σ H fun x H1 => tyV K T x H1 ∧ t σ H1 fun xs H2 => r x xs H2 Q
variable {o e : Expr} {es : List Expr} {to : TE} {t : TA} {name : Str} {apos cpos : Pos} {T id : String} {r : V → List V → Hp → VK → Prop}
theorem pe_bm (pa : PlainAttrs T) (slot : Slot T name id) (hty : typeOf (.builtin id) = pure (.type "method_descriptor")) (hm : MtR X id r) (ho : PE X o to) (ha : PA X (e :: es) t)
    (hbase : attributeBase o name X.env (eval o X.env) = eval o X.env := by rfl)
    (hfew : ((backTo cpos (starEach (e :: es) X.env)).all (fun x => !x.1) && (backToKw cpos (keywordEach [] X.env)).all (fun x => x.1.isSome)
      && decide ((e :: es).length + ([] : List Keyword).length + (if ([] : List Keyword).isEmpty then 0 else 1) < 30)) = true := by rfl)
    (hline : (apos.endLine == cpos.line) = true := by rfl) (hs : starEach (e :: es) X.env = (false, eval e X.env) :: starEach es X.env := by rfl) (hplain : (backTo cpos (starEach es X.env)).any (·.1) = false := by rfl) :
    PE X (.Call (.Attribute o name apos) (e :: es) [] cpos) (tBM X.K T r to t) := by
  intro pins s σ H Q I h
  refine wpAny_Call_method_late hbase hfew hline rfl (thn (ho pins s σ H _ I h) fun v s1 ⟨x, H1, I1, r1, ty, q1⟩ => ?_)
  obtain ⟨h1, h2⟩ := tyV_is I1 r1 ty
  refine ⟨T, id, pa, slot, hty, h1, h2, ?_⟩
  have hA := ha cpos pins s1 σ H1 _ I1 q1
  rw [hs] at hA ⊢
  refine Calls.callWith_builtin (by show (false || (backTo cpos (starEach es X.env)).any (·.1)) = false; rw [hplain] <;> rfl) (Calls.evalArgs_plain ?_)
  exact thn hA fun us s2 ⟨vs, H2, I2, r2, q2⟩ => hm pins s2 σ H2 x vs v us Q I2 r1 r2 q2
end
end L2
namespace L2
open PySem PySem.Spec PyProof.Rows
def MtM (X : Cx) (id : String) (r : V → List V → Hp → VK → Prop) : Prop :=
  ∀ (pins : List (Addr × Obj)) (s : Shared) (σ : St) (H : Hp) (x : V) (xs : List V) (v : Value) (us : List Value) (Q : VK), Inv X pins σ H s → RelV x v → Vals xs us → r x xs H Q →
    wpAny (model X.prog X.w) X.A (call (.builtin id) (v :: us)) (EP X pins σ Q) X.xe s
theorem Vals.one : ∀ {x : V} {us : List Value}, Vals [x] us → ∃ u, us = [u] ∧ RelV x u
  | _, _, .cons r .nil => ⟨_, rfl, r⟩
theorem Vals.two : ∀ {x y : V} {us : List Value}, Vals [x, y] us → ∃ u v, us = [u, v] ∧ RelV x u ∧ RelV y v
  | _, _, _, .cons r (.cons q .nil) => ⟨_, _, rfl, r, q⟩
theorem Vals.zero : ∀ {us : List Value}, Vals [] us → us = []
  | _, .nil => rfl
theorem Vals.dropLast {xs : List V} {us : List Value} (h : Vals xs us) : Vals xs.dropLast us.dropLast := by
  induction h with
  | nil => exact .nil
  | cons r t ih =>
    cases t with
    | nil => exact .nil
    | cons q t' => exact .cons r ih
theorem Vals.eraseIdx : ∀ {xs : List V} {us : List Value} (i : Nat), Vals xs us → Vals (xs.eraseIdx i) (us.eraseIdx i)
  | _, _, _, .nil => .nil
  | _, _, 0, .cons _ t => t
  | _, _, i + 1, .cons r t => .cons r (Vals.eraseIdx i t)
theorem Vals.reverse {xs : List V} {us : List Value} (h : Vals xs us) : Vals xs.reverse us.reverse := by
  induction h with
  | nil => exact .nil
  | cons r t ih => rw [List.reverse_cons, List.reverse_cons]; exact Vals.append ih (.cons r .nil)
theorem Vals.rep {xs : List V} {us : List Value} (h : Vals xs us) : ∀ k : Nat, Vals (List.replicate k xs).flatten (List.replicate k us).flatten
  | 0 => .nil
  | k + 1 => by
    rw [List.replicate_succ, List.replicate_succ, List.flatten_cons, List.flatten_cons]
    exact Vals.append h (Vals.rep h k)
theorem foldl_rep (its : List Value) : ∀ (k : Nat) (acc : List Value),
    List.foldl (fun x1 x2 => x1 ++ x2) acc.toArray (List.replicate k its.toArray) = (acc ++ (List.replicate k its).flatten).toArray
  | 0, acc => by simp
  | k + 1, acc => by
    have e : acc.toArray ++ its.toArray = (acc ++ its).toArray := by simp
    have e2 : (acc ++ its) ++ (List.replicate k its).flatten = acc ++ (List.replicate (k + 1) its).flatten := by
      rw [List.replicate_succ, List.flatten_cons, List.append_assoc]
    rw [← e2, ← foldl_rep its k (acc ++ its), ← e, List.replicate_succ, List.foldl_cons]
section
variable {X : Cx} {pins : List (Addr × Obj)} {σ : St} {H : Hp} {s : Shared} {l b : Addr} {xs ys zs : List V}
theorem Inv.lset {its its' : List Value} {n : Nat} {f : Array Value → Array Value} {t' : Nat} (I : Inv X pins σ H s) (hH : H l = some (.lst xs))
    (e : s.heap.get? l = some { cls := .type "list", data := .seq its.toArray n }) (hf : f its.toArray = its'.toArray) (hv : Vals ys its') (hz : ys.length ≤ sizeLine) :
    Inv X pins σ (upd H l (.lst ys)) { s with heap := s.heap.update l (Obj.mapSeq f), toks := t' } := by
  have q := PySem.IsL.update e f
  rw [hf] at q
  refine I.write (x := l) (e := l) (by rw [hH]; exact trivial) (.inl rfl) (fun b' u hb hu => (Heap.get?_update_other s.heap (Obj.mapSeq f) (Ne.symm hb)).trans hu) ⟨_, q⟩ ?_
  exact ⟨hz, its', _, hv, q⟩
theorem Inv.lnew {its : List Value} {t' : Nat} (I : Inv X pins σ H s) (hv : Vals ys its) (hz : ys.length ≤ sizeLine) :
    Inv X pins σ (upd H s.heap.objs.size (.lst ys)) { s with heap := s.heap.push { cls := .type "list", data := .seq its.toArray }, toks := t' } :=
  I.laid (fun _ _ q => Heap.get?_push_of_some _ q) (Nat.le_refl _) ⟨hz, its, 0, hv, Heap.get?_push_size _ rfl⟩
theorem Inv.fresh (I : Inv X pins σ H s) : H s.heap.objs.size = none := I.hok.fresh (Nat.le_refl _)
theorem Inv.lstM (I : Inv X pins σ H s) (hH : H l = some (.lst xs)) : xs.length ≤ sizeLine ∧ ∃ (its : List Value) (n : Nat), Vals xs its ∧ xs.length = its.length ∧ s.heap.get? l = some { cls := .type "list", data := .seq its.toArray n } := by
  obtain ⟨z, its, n, r, e⟩ := I.hok l _ hH
  exact ⟨z, its, n, r, r.length, e⟩
theorem notLongL {n : Nat} (h : n ≤ sizeLine) : Builtin.List.listTooLong n = false := by
  unfold Builtin.List.listTooLong
  exact decide_eq_false (by omega)
end
section
variable {X : Cx}
def rAppend : V → List V → Hp → VK → Prop := fun x vs H Q => ∃ l xs y, x = .ref l ∧ vs = [y] ∧ H l = some (.lst xs) ∧ xs.length < sizeLine ∧ Q .non (upd H l (.lst (xs ++ [y])))
theorem mt_append : MtM X "list.append" rAppend := by
  intro pins s σ H x vs v us Q I rx rv h
  obtain ⟨l, xs, y, rfl, rfl, hH, hz, q⟩ := h
  cases rx
  obtain ⟨u, rfl, ru⟩ := rv.one
  obtain ⟨z, its, n, r, hl, e⟩ := I.lstM hH
  refine call_meets F.slot_list_append ⟨_, e, rfl⟩ F.entry_list_append (F.args_list_append_2 _ _) (PySem.list_append l its.toArray n u (by rw [List.size_toArray]; omega)) ⟨e, ?_⟩
  refine ⟨.non, _, I.lset (its' := its ++ [u]) hH e (by simp) (r.append (.cons ru .nil)) ?_, rfl, q⟩
  rw [List.length_append, List.length_singleton]
  omega
def rCat : R2 := fun x y H Q => ∃ l b xs zs, x = .ref l ∧ y = .ref b ∧ H l = some (.lst xs) ∧ H b = some (.lst zs) ∧ xs.length + zs.length ≤ sizeLine ∧ ∀ p, H p = none → Q (.ref p) (upd H p (.lst (xs ++ zs)))
theorem op_cat : OpR X (binaryOp .Add) rCat := by
  intro pins s σ H x y v u Q I rx ry h
  obtain ⟨l, b, xs, zs, rfl, rfl, hH, hB, hz, q⟩ := h
  cases rx
  cases ry
  obtain ⟨z, its, n, r, hl, e⟩ := I.lstM hH
  obtain ⟨z2, its2, n2, r2, hl2, e2⟩ := I.lstM hB
  refine PySem.P.add_list e e2 ?_ (by rw [List.size_toArray, List.size_toArray]; omega)
  have ea : its.toArray ++ its2.toArray = (its ++ its2).toArray := by simp
  rw [ea]
  exact ⟨.ref _, _, I.lnew (t' := s.toks) (r.append r2) (by rw [List.length_append]; omega), rfl, q _ I.fresh⟩
def rRep : R2 := fun x y H Q => ∃ l k xs, x = .ref l ∧ y = .int k ∧ H l = some (.lst xs) ∧ -(2 ^ 63) ≤ k ∧ k < 2 ^ 63 ∧ xs.length * k.toNat ≤ sizeLine ∧
  ∀ p, H p = none → Q (.ref p) (upd H p (.lst (List.replicate k.toNat xs).flatten))
theorem len_rep {α : Type} (xs : List α) (k : Nat) : (List.replicate k xs).flatten.length = k * xs.length := by
  induction k with
  | zero => simp
  | succ k ih => rw [List.replicate_succ, List.flatten_cons, List.length_append, ih, Nat.succ_mul, Nat.add_comm]
theorem op_rep : OpR X (binaryOp .Mult) rRep := by
  intro pins s σ H x y v u Q I rx ry h
  obtain ⟨l, k, xs, rfl, rfl, hH, h1, h2, hz, q⟩ := h
  cases rx
  obtain ⟨t, rfl⟩ := ry
  obtain ⟨z, its, n, r, hl, e⟩ := I.lstM hH
  have hlen : its.toArray.size * k.toNat ≤ sizeLine := by rw [List.size_toArray, ← hl]; exact hz
  have hcap : ¬ its.toArray.size * k.toNat > (2 ^ 63 - 1) / 8 := by
    have : (sizeLine : Nat) ≤ (2 ^ 63 - 1) / 8 := by decide
    omega
  have hfit : ¬ (!Builtin.List.listFitsIndex k) = true := by
    rw [fitsIndex_both h1 h2]
    exact Bool.false_ne_true
  have hlong : ¬ Builtin.List.listTooLong (its.toArray.size * k.toNat) = true := by
    rw [notLongL hlen]
    exact Bool.false_ne_true
  have hnew : List.foldl (fun x1 x2 => x1 ++ x2) #[] (List.replicate (if its.toArray.isEmpty = true then 0 else k.toNat) its.toArray) = (List.replicate k.toNat its).flatten.toArray := by
    have f0 : ∀ m : Nat, List.foldl (fun x1 x2 => x1 ++ x2) #[] (List.replicate m its.toArray) = (List.replicate m its).flatten.toArray := fun m => by
      have := foldl_rep its m []
      rw [List.nil_append] at this
      exact this
    rw [f0]
    cases its with
    | nil => simp
    | cons a r' => rw [if_neg (by simp)]
  refine wpAny_binaryOp_repeat_ref (T := "list") (U := "int") (by decide) ⟨_, e, rfl⟩ (fun s' => typeIs_int s' k t) noFill_list_mul F.fills_int_mul F.slot_int_rmul repeat_list F.slot_int_index.lookup
    (call_meets F.slot_int_rmul (typeIs_int s k t) F.entry_int_rmul (F.args_int_rmul_2 _ _) (int___rmul___int_list k t l its.toArray n)
      ⟨e, rfl, ⟨_, e, rfl⟩, call_meets F.slot_list_mul ⟨_, e, rfl⟩ F.entry_list_mul (F.args_list_mul_2 _ _) (AutoListH.list___mul___list_int_3 l its.toArray n k t hfit hcap hlong) ⟨e, ?_⟩⟩)
  rw [hnew]
  exact ⟨.ref _, _, I.lnew (t' := s.toks) (r.rep k.toNat) (by rw [len_rep, Nat.mul_comm]; exact hz), rfl, q _ I.fresh⟩
end
section
variable {prog : Program} {w : World} {A : Around} {E : Value → Shared → Prop} {s : Shared}
end
section
variable {X : Cx}
end
end L2
namespace L2
open PySem PySem.Spec PyProof.Rows
theorem Vals.ints : ∀ {ns : List Int} {us : List Value}, Vals (ns.map V.int) us → IntsAre us ns
  | [], us, h => by
    rw [List.map_nil] at h
    cases h
    exact IntsAre.nil
  | n :: ns, us, h => by
    rw [List.map_cons] at h
    cases h with
    | cons r t =>
      obtain ⟨k, rfl⟩ := r
      exact IntsAre.cons n k (Vals.ints t)
theorem Vals.strs : ∀ {xs : List Str} {us : List Value}, Vals (xs.map V.str) us → StrsAre us xs
  | [], us, h => by
    rw [List.map_nil] at h
    cases h
    exact StrsAre.nil
  | x :: xs, us, h => by
    rw [List.map_cons] at h
    cases h with
    | cons r t =>
      obtain ⟨k, rfl⟩ := r
      exact StrsAre.cons x k (Vals.strs t)
section
variable {prog : Program} {w : World} {A : Around} {E : Value → Shared → Prop} {s : Shared} {l : Addr} {its : List Value} {ns : List Int} {Q : Value → Shared → Prop}
end
section
variable {X : Cx}
end
section
variable {X : Cx}
end
section
variable {X : Cx}
end
section
variable {X : Cx}
end
mutual
inductive Dp (K : PySem.W.Frag) (H : Hp) : V → PyData → Prop
  | non : Dp K H .non .none
  | bl (b : Bool) : Dp K H (.bl b) (.bool b)
  | int (i : Int) : Dp K H (.int i) (.int i)
  | str (x : Str) : Dp K H (.str x) (.str x)
  | lst {a : Addr} {xs : List V} {ds : List PyData} : SqL K H a xs → DpAll K H xs ds → Dp K H (.ref a) (.list ds)
  | tup {a : Addr} {xs : List V} {ds : List PyData} : SqT K H a xs → DpAll K H xs ds → Dp K H (.ref a) (.tuple ds)
inductive DpAll (K : PySem.W.Frag) (H : Hp) : List V → List PyData → Prop
  | nil : DpAll K H [] []
  | cons {v : V} {vs : List V} {d : PyData} {ds : List PyData} : Dp K H v d → DpAll K H vs ds → DpAll K H (v :: vs) (d :: ds)
end
section
variable {X : Cx} {pins : List (Addr × Obj)} {σ : St} {H : Hp} {s : Shared}
mutual
theorem Dp.reads (I : Inv X pins σ H s) : ∀ (d : PyData) (v : V) (u : Value), Dp X.K H v d → RelV v u → ∃ as, Reads s.heap u d as
  | .none, _, _, h, r => by
    cases h
    cases r
    exact ⟨_, Reads.none⟩
  | .bool b, _, _, h, r => by
    cases h
    cases r
    exact ⟨_, Reads.bool b⟩
  | .int i, _, _, h, r => by
    cases h
    obtain ⟨t, rfl⟩ := r
    exact ⟨_, Reads.int i t⟩
  | .str x, _, _, h, r => by
    cases h
    obtain ⟨t, rfl⟩ := r
    exact ⟨_, Reads.str x t⟩
  | .list ds, _, _, h, r => by
    cases h with
    | lst hs ha =>
      cases r
      obtain ⟨its, rv, ⟨o, n, ho, hc, _, hd⟩, _⟩ := I.list hs
      obtain ⟨as, hr⟩ := Dp.readsAll I ds _ its ha rv
      exact ⟨_, Reads.list ho hc hd hr⟩
  | .tuple ds, _, _, h, r => by
    cases h with
    | tup hs ha =>
      cases r
      obtain ⟨its, rv, ⟨o, ho, hc, n, hd⟩, _⟩ := I.tuple hs
      obtain ⟨as, hr⟩ := Dp.readsAll I ds _ its ha rv
      exact ⟨_, Reads.tuple ho hc hd hr⟩
  | .dict _, _, _, h, _ => by cases h
theorem Dp.readsAll (I : Inv X pins σ H s) : ∀ (ds : List PyData) (vs : List V) (us : List Value), DpAll X.K H vs ds → Vals vs us → ∃ as, ReadsAll s.heap us ds as
  | [], _, _, h, r => by
    cases h
    cases r
    exact ⟨_, ReadsAll.nil⟩
  | d :: ds, _, _, h, r => by
    cases h with
    | cons h1 h2 =>
      cases r with
      | cons r1 r2 =>
        obtain ⟨as, q1⟩ := Dp.reads I d _ _ h1 r1
        obtain ⟨bs, q2⟩ := Dp.readsAll I ds _ _ h2 r2
        exact ⟨_, ReadsAll.cons q1 q2⟩
end
end
section
variable {X : Cx}
def rEqD (K : PySem.W.Frag) : R2 := fun x y H Q => ∃ d e, Dp K H x d ∧ Dp K H y e ∧ SeqAt.shaped d = true ∧ SeqAt.shaped e = true ∧ Q (.bl (PyData.eqv d e)) H
def rNeD (K : PySem.W.Frag) : R2 := fun x y H Q => ∃ d e, Dp K H x d ∧ Dp K H y e ∧ SeqAt.shaped d = true ∧ SeqAt.shaped e = true ∧ Q (.bl (!PyData.eqv d e)) H
theorem op_eqD (hu : X.A.units + 64 < cLine) : OpR X (compareOp .Eq) (rEqD X.K) := by
  intro pins s σ H x y v u Q I rx ry h
  obtain ⟨d, e, hd, he, sd, se, q⟩ := h
  obtain ⟨as, r1⟩ := Dp.reads I d x v hd rx
  obtain ⟨bs, r2⟩ := Dp.reads I e y u he ry
  exact SeqAt.compareEq_shaped r1 r2 sd se hu ⟨.bl _, H, I, rfl, q⟩
theorem op_neD (hu : X.A.units + 64 < cLine) : OpR X (compareOp .NotEq) (rNeD X.K) := by
  intro pins s σ H x y v u Q I rx ry h
  obtain ⟨d, e, hd, he, sd, se, q⟩ := h
  obtain ⟨as, r1⟩ := Dp.reads I d x v hd rx
  obtain ⟨bs, r2⟩ := Dp.reads I e y u he ry
  exact SeqAt.compareNe_shaped r1 r2 sd se hu ⟨.bl _, H, I, rfl, q⟩
end
end L2
namespace L2
open PySem PySem.Spec PyProof.Rows
structure BlkOk (N : List Str) (sc scope : Scope) (own : List (Str × Nat)) : Prop where
  kind : scope.kind = .function
  uniq : ∀ y ∈ scope.names, scope.names.lookup y.1 = some y.2
  ix : ∀ p ∈ own, N[p.2]? = some p.1
  free : ∀ y ∈ scope.names, y.2 = .free → sc.names.lookup y.1 = some .cell ∨ sc.names.lookup y.1 = some .free
  own : ∀ y ∈ scope.names, y.2 = .local ∨ y.2 = .cell → y.1 ∈ own.map (·.1) ∨ y.1 ∉ N
abbrev Cx.blk (X : Cx) (s : Shared) (H : Hp) (scope : Scope) (cenv : Env) (fp : List Addr) : Cx := { X with s_0 := s, H_0 := H, env := cenv, outer := X.stack, ex := fp, fn := fun x => scope.names.lookup x == some .cell, pn := [], xe := fun _ _ => False }
section
variable {X : Cx} {pins : List (Addr × Obj)} {σ : St} {H : Hp} {s : Shared}
def PTs (X : Cx) (ifs : List Expr) (t : TT) : Prop :=
  ∀ (pins : List (Addr × Obj)) (s : Shared) (σ : St) (H : Hp) (Q : Bool → Hp → Prop), Inv X pins σ H s → t σ H Q →
    wpAny (model X.prog X.w) X.A (forIn ifs true fun c r => if r = true then do let ok ← isTrue c X.env (eval c X.env); pure (ForInStep.yield ok) else pure (ForInStep.yield r)) (TP X pins σ Q) X.xe s
end
section
variable {X : Cx}
end
end L2
namespace L2
open PySem PySem.Spec PyProof.Rows
section
variable {prog : Program} {w : World} {A : Around} {R : Result → Shared → Prop} {s : Shared} {elt t0 i0 t1 i1 : Expr} {ifs0 ifs1 : List Expr} {scope : Scope} {pos : Pos} {it acc : Value} {env : Env}
end
section
variable {X : Cx}
end
end L2
namespace L2
open PySem PySem.Spec PyProof.Rows
section
variable {κ : Type} [DecidableEq κ]
def valV (kvs : List (κ × V)) (k : κ) : Option V := (kvs.find? fun kv => decide (kv.1 = k)).map (·.2)
def putK (kvs : List (κ × V)) (k : κ) (v : V) : List (κ × V) :=
  if (kvs.any fun kv => decide (kv.1 = k)) = true then kvs.map (fun kv => if kv.1 = k then (kv.1, v) else kv) else kvs ++ [(k, v)]
def dropK (kvs : List (κ × V)) (k : κ) : List (κ × V) := kvs.filter fun kv => decide (kv.1 ≠ k)
theorem valV_pos {p : κ × V} {r : List (κ × V)} {k : κ} (e : p.1 = k) : valV (p :: r) k = some p.2 := by simp [valV, List.find?_cons, e]
theorem valV_neg {p : κ × V} {r : List (κ × V)} {k : κ} (e : ¬ p.1 = k) : valV (p :: r) k = valV r k := by simp [valV, List.find?_cons, e]
theorem valV_any (k : κ) : ∀ kvs : List (κ × V), (kvs.any fun kv => decide (kv.1 = k)) = (valV kvs k).isSome
  | [] => rfl
  | p :: r => by
    rw [List.any_cons]
    by_cases e : p.1 = k
    · simp only [valV_pos e, decide_eq_true e, Bool.true_or, Option.isSome_some]
    · rw [valV_neg e, decide_eq_false e, Bool.false_or]; exact valV_any k r
theorem length_putK (kvs : List (κ × V)) (k : κ) (v : V) : (putK kvs k v).length ≤ kvs.length + 1 := by
  unfold putK
  split
  · rw [List.length_map]; omega
  · rw [List.length_append, List.length_cons, List.length_nil]; omega
theorem RelO.isSome_eq {o : Option V} {u : Option Value} (r : RelO o u) : o.isSome = u.isSome := by
  cases o with
  | none => cases u with
    | none => rfl
    | some _ => exact (show False from r).elim
  | some _ => cases u with
    | none => exact (show False from r).elim
    | some _ => rfl
theorem RelO.getD {o : Option V} {u : Option Value} {d : V} {d' : Value} (r : RelO o u) (rd : RelV d d') : RelV (o.getD d) (u.getD d') := by
  cases o with
  | none => cases u with
    | none => exact rd
    | some _ => exact (show False from r).elim
  | some _ => cases u with
    | none => exact (show False from r).elim
    | some _ => exact r
theorem KV.val {kvs : List (κ × V)} {vs : List (κ × Value)} (r : KV kvs vs) (k : κ) : RelO (valV kvs k) (valueAt vs k) := by
  unfold KV at r
  induction r with
  | nil => exact True.intro
  | @cons p q ps qs h t ih =>
    obtain ⟨h1, h2⟩ := h
    by_cases e : p.1 = k
    · have e' : q.1 = k := h1.symm.trans e
      have b : valueAt (q :: qs) k = some q.2 := by simp [valueAt, List.find?_cons, e']
      rw [valV_pos e, b]; exact h2
    · have e' : ¬ q.1 = k := fun z => e (h1.trans z)
      have b : valueAt (q :: qs) k = valueAt qs k := by simp [valueAt, List.find?_cons, e']
      rw [valV_neg e, b]; exact ih
theorem KV.any {kvs : List (κ × V)} {vs : List (κ × Value)} (r : KV kvs vs) (k : κ) : (kvs.any fun kv => decide (kv.1 = k)) = vs.any fun kv => decide (kv.1 = k) := by
  unfold KV at r
  induction r with
  | nil => rfl
  | cons h t ih => rw [List.any_cons, List.any_cons, ih, h.1]
theorem KV.repl {kvs : List (κ × V)} {vs : List (κ × Value)} (r : KV kvs vs) (k : κ) {y : V} {u : Value} (ry : RelV y u) :
    KV (kvs.map fun kv => if kv.1 = k then (kv.1, y) else kv) (vs.map fun kv => if kv.1 = k then (kv.1, u) else kv) := by
  unfold KV at r ⊢
  induction r with
  | nil => exact .nil
  | @cons p q ps qs h t ih =>
    rw [List.map_cons, List.map_cons]
    refine .cons ?_ ih
    obtain ⟨h1, h2⟩ := h
    by_cases e : p.1 = k
    · rw [if_pos e, if_pos (h1.symm.trans e)]; exact ⟨h1, ry⟩
    · rw [if_neg e, if_neg (fun z => e (h1.trans z))]; exact ⟨h1, h2⟩
theorem KV.put {kvs : List (κ × V)} {vs : List (κ × Value)} (r : KV kvs vs) (k : κ) {y : V} {u : Value} (ry : RelV y u) : KV (putK kvs k y) (stored vs k u) := by
  unfold putK stored
  rw [r.any k]
  by_cases e : (vs.any fun kv => decide (kv.1 = k)) = true
  · rw [if_pos e, if_pos e]; exact r.repl k ry
  · rw [if_neg e, if_neg e]; exact Paired.snoc r ⟨rfl, ry⟩
theorem KV.drop {kvs : List (κ × V)} {vs : List (κ × Value)} (r : KV kvs vs) (k : κ) : KV (dropK kvs k) (without vs k) := by
  unfold KV at r ⊢
  unfold dropK without
  induction r with
  | nil => exact .nil
  | @cons p q ps qs h t ih =>
    obtain ⟨h1, h2⟩ := h
    rw [List.filter_cons, List.filter_cons]
    by_cases e : p.1 = k
    · have a : ¬ decide (p.1 ≠ k) = true := by simp [e]
      have b : ¬ decide (q.1 ≠ k) = true := by simp [h1.symm.trans e]
      rw [if_neg a, if_neg b]; exact ih
    · have e' : ¬ q.1 = k := fun z => e (h1.trans z)
      have a : decide (p.1 ≠ k) = true := by simp [e]
      have b : decide (q.1 ≠ k) = true := by simp [e']
      rw [if_pos a, if_pos b]; exact .cons ⟨h1, h2⟩ ih
theorem KV.keys {kvs : List (κ × V)} {vs : List (κ × Value)} (r : KV kvs vs) : kvs.map (·.1) = vs.map (·.1) := by
  unfold KV at r
  induction r with
  | nil => rfl
  | cons h t ih => rw [List.map_cons, List.map_cons, ih, h.1]
theorem KV.length {kvs : List (κ × V)} {vs : List (κ × Value)} (r : KV kvs vs) : kvs.length = vs.length := Paired.length r
end
theorem kV_is {P : Program} {w : World} {k : Key} {u : Value} (r : RelV (kV k) u) : (mixKind P w).is k u = true := by
  cases k with
  | inl i => obtain ⟨t, e⟩ := (show ∃ t, u = Value.int i t from r); subst e; exact mixKind_int P w i t
  | inr x => obtain ⟨t, e⟩ := (show ∃ t, u = Value.str x t from r); subst e; exact mixKind_str P w x t
theorem items_are {P : Program} {w : World} : ∀ {ks : List Key} {us : List Value}, Vals (ks.map kV) us → ItemsAre (mixKind P w) ks us
  | [], _, r => by rw [List.map_nil] at r; cases r; exact .nil
  | k :: ks, _, r => by
    rw [List.map_cons] at r
    cases r with
    | cons h t => exact .cons (kV_is h) (items_are t)
abbrev KT (H : Hp) : List (List Key × V) → List (List Key × Addr × Value) → Prop := Paired fun p q => p.1 = q.1 ∧ H q.2.1 = some (.tup (p.1.map kV)) ∧ RelV p.2 q.2.2
theorem KT.val {H : Hp} {kvs : List (List Key × V)} {xs : List (List Key × Addr × Value)} (r : KT H kvs xs) (k : List Key) : RelO (valV kvs k) ((atKey xs k).map (·.2)) := by
  induction r with
  | nil => exact True.intro
  | @cons p q ps qs h t ih =>
    obtain ⟨h1, _, h2⟩ := h
    by_cases e : p.1 = k
    · have e' : q.1 = k := h1.symm.trans e
      have b : atKey (q :: qs) k = some q.2 := by simp [atKey, List.find?_cons, e']
      rw [valV_pos e, b]; exact h2
    · have e' : ¬ q.1 = k := fun z => e (h1.trans z)
      have b : atKey (q :: qs) k = atKey qs k := by simp [atKey, List.find?_cons, e']
      rw [valV_neg e, b]; exact ih
theorem KT.repl {H : Hp} {kvs : List (List Key × V)} {xs : List (List Key × Addr × Value)} (r : KT H kvs xs) (k : List Key) {y : V} {u : Value} (ry : RelV y u) :
    KT H (kvs.map fun kv => if kv.1 = k then (kv.1, y) else kv) (xs.map (putAt k u)) := by
  induction r with
  | nil => exact .nil
  | @cons p q ps qs h t ih =>
    rw [List.map_cons, List.map_cons]
    refine .cons ?_ ih
    obtain ⟨h1, h2, h3⟩ := h
    unfold putAt
    by_cases e : p.1 = k
    · rw [if_pos e, if_pos (h1.symm.trans e)]; exact ⟨h1, h2, ry⟩
    · rw [if_neg e, if_neg (fun z => e (h1.trans z))]; exact ⟨h1, h2, h3⟩
theorem KT.put {H : Hp} {kvs : List (List Key × V)} {xs : List (List Key × Addr × Value)} (r : KT H kvs xs) (k : List Key) {b : Addr} {y : V} {u : Value} (hb : H b = some (.tup (k.map kV))) (ry : RelV y u) :
    KT H (putK kvs k y) (storedH xs k b u) := by
  have e : (kvs.any fun kv => decide (kv.1 = k)) = (atKey xs k).isSome := by
    rw [valV_any, (r.val k).isSome_eq, Option.isSome_map]
  unfold putK storedH
  rw [e]
  by_cases q : (atKey xs k).isSome = true
  · rw [if_pos q, if_pos q]; exact r.repl k ry
  · rw [if_neg q, if_neg q]; exact Paired.snoc r ⟨rfl, hb, ry⟩
theorem KT.keeps {H H' : Hp} {kvs : List (List Key × V)} {xs : List (List Key × Addr × Value)} (r : KT H kvs xs) (ht : ∀ b ys, H b = some (.tup ys) → H' b = some (.tup ys)) : KT H' kvs xs :=
  Paired.mapP r fun _ _ z => ⟨z.1, ht _ _ z.2.1, z.2.2⟩
section
variable {P : Program} {w : World} {H : Hp} {h : Heap} {a : Addr}
theorem rd_of {u : HO} (ok : HOk P w H h) (e : Rd H a u) : ObjOk P w H h a u := e.ok ok
theorem dk_rd {kvs : List (Key × V)} (ok : HOk P w H h) (e : Rd H a (.dK kvs)) : kvs.length ≤ sizeLine ∧ (a == sysModules) = false ∧ ∃ vs, KV kvs vs ∧ h.DictOf (mixKind P w) a vs :=
  show ObjOk P w H h a (.dK kvs) from rd_of ok e
theorem dk_of {kvs : List (Key × V)} (ok : HOk P w H h) (e : H a = some (.dK kvs)) : kvs.length ≤ sizeLine ∧ (a == sysModules) = false ∧ ∃ vs, KV kvs vs ∧ h.DictOf (mixKind P w) a vs := dk_rd ok (.inl e)
theorem key_of {ks : List Key} (ok : HOk P w H h) (e : H a = some (.tup (ks.map kV))) : (tupleKind (mixKind P w)).is h ks a := by
  obtain ⟨_, its, r, ⟨o, h1, h2, n, h3⟩, _⟩ := (show ObjOk P w H h a (.tup (ks.map kV)) from ok a _ e)
  exact ⟨o, its.toArray, n, h1, h2, h3, by simpa using items_are r⟩
theorem dt_rd {kvs : List (List Key × V)} (ok : HOk P w H h) (e : Rd H a (.dT kvs)) : kvs.length ≤ sizeLine ∧ (a == sysModules) = false ∧
    ∃ xs, KT H kvs xs ∧ h.DictOfH (tupleKind (mixKind P w)) a xs := by
  obtain ⟨z, y, xs, r, o, es, ep, h1, h2, h3, h4, h5⟩ := (show ObjOk P w H h a (.dT kvs) from rd_of ok e)
  refine ⟨z, y, xs, r, o, es, ep, h1, h2, h3, h4, fun x hx => ?_, h5⟩
  have all : ∀ {l : List (List Key × V)} {m : List (List Key × Addr × Value)}, KT H l m → ∀ x ∈ m, (tupleKind (mixKind P w)).is h x.1 x.2.1 := by
    intro l m q
    induction q with
    | nil => intro x hx; exact nomatch hx
    | @cons p q ps qs hq t ih =>
      intro x hx
      rcases List.mem_cons.mp hx with e | hx
      · subst e
        exact key_of ok (by rw [← hq.1]; exact hq.2.1)
      · exact ih x hx
  exact all r x hx
theorem dt_of {kvs : List (List Key × V)} (ok : HOk P w H h) (e : H a = some (.dT kvs)) : kvs.length ≤ sizeLine ∧ (a == sysModules) = false ∧
    ∃ xs, KT H kvs xs ∧ h.DictOfH (tupleKind (mixKind P w)) a xs := dt_rd ok (.inl e)
end
def DGet (H : Hp) (a : Addr) (y : V) (r : Option V) : Prop :=
  (∃ kvs k, Rd H a (.dK kvs) ∧ y = kV k ∧ r = valV kvs k) ∨ ∃ kvs k b, Rd H a (.dT kvs) ∧ y = .ref b ∧ H b = some (.tup (k.map kV)) ∧ r = valV kvs k
def DPut (H : Hp) (a : Addr) (y v : V) (H' : Hp) : Prop :=
  (∃ kvs k, H a = some (.dK kvs) ∧ y = kV k ∧ kvs.length < sizeLine ∧ H' = upd H a (.dK (putK kvs k v))) ∨
  ∃ kvs k b, H a = some (.dT kvs) ∧ y = .ref b ∧ H b = some (.tup (k.map kV)) ∧ kvs.length < sizeLine ∧ H' = upd H a (.dT (putK kvs k v))
theorem DGet.k {H : Hp} {a : Addr} {kvs : List (Key × V)} {k : Key} (e : H a = some (.dK kvs)) : DGet H a (kV k) (valV kvs k) := .inl ⟨kvs, k, .inl e, rfl, rfl⟩
theorem DGet.t {H : Hp} {a b : Addr} {kvs : List (List Key × V)} {k : List Key} (e : H a = some (.dT kvs)) (eb : H b = some (.tup (k.map kV))) : DGet H a (.ref b) (valV kvs k) := .inr ⟨kvs, k, b, .inl e, rfl, eb, rfl⟩
theorem DPut.k {H : Hp} {a : Addr} {kvs : List (Key × V)} {k : Key} {v : V} (e : H a = some (.dK kvs)) (hl : kvs.length < sizeLine) : DPut H a (kV k) v (upd H a (.dK (putK kvs k v))) := .inl ⟨kvs, k, e, rfl, hl, rfl⟩
theorem DPut.t {H : Hp} {a b : Addr} {kvs : List (List Key × V)} {k : List Key} {v : V} (e : H a = some (.dT kvs)) (eb : H b = some (.tup (k.map kV))) (hl : kvs.length < sizeLine) :
    DPut H a (.ref b) v (upd H a (.dT (putK kvs k v))) := .inr ⟨kvs, k, b, e, rfl, eb, hl, rfl⟩
section
variable {X : Cx} {pins : List (Addr × Obj)} {σ : St} {H : Hp} {s : Shared} {a : Addr} {y v : V} {u r : Value} {o : Option V} {A : Around} {E : Value → Shared → Prop}
theorem Inv.big (I : Inv X pins σ H s) : sysModules < s.heap.objs.size := by
  have h : mainGlobals < s.heap.objs.size := (I.mod.glob.keeps I.bk).lt
  exact Nat.lt_trans (by decide) h
theorem d_getItem {Q : Value → Shared → Prop} (hu : A.units + 1 < cLine) (I : Inv X pins σ H s) (g : DGet H a y (some v)) (ry : RelV y u) (h : ∀ w' s', Inv X pins σ H s' → RelV v w' → Q w' s') :
    wpAny (model X.prog X.w) A (getItem (.ref a) u) Q E s := by
  rcases g with ⟨kvs, k, e, ey, l⟩ | ⟨kvs, k, b, e, ey, eb, l⟩
  · subst ey
    obtain ⟨z, hd, vs, rel, dd⟩ := dk_rd I.hok e
    obtain ⟨w', hw, rw'⟩ := RelO.some_of (v := v) (o := valueAt vs k) (by rw [l]; exact rel.val k)
    exact wpAny_getItem_of (kV_is ry) dd.mapOf hw (h w' _ (I.tok _) rw')
  · subst ey
    cases (show u = Value.ref b from ry)
    obtain ⟨z, hd, xs, rel, dd⟩ := dt_rd I.hok e
    obtain ⟨w', hw, rw'⟩ := RelO.some_of (v := v) (o := (atKey xs k).map (·.2)) (by rw [l]; exact rel.val k)
    obtain ⟨p, hp, hp2⟩ := Option.map_eq_some_iff.mp hw
    refine wpAny_getItem_heap (tupleKind_room_in1 hu) (key_of I.hok eb) dd hp ?_
    rw [hp2]
    exact h w' _ (I.tok _) rw'
theorem d_write {h' : Heap} {t' : Nat} {ob : HO} (I : Inv X pins σ H s) (mu : Mut (H a)) (hs : Heap.SameBut a s.heap h') (he : ∃ q, h'.get? a = some q) (new : ObjOk X.prog X.w (upd H a ob) h' a ob) :
    Inv X pins σ (upd H a ob) { s with heap := h', toks := t' } :=
  I.write (x := a) (e := a) mu (.inl rfl) (fun b q hb z => (hs.2 b hb).trans z) he new
theorem dk_new {P : Program} {w : World} {H' : Hp} {h' : Heap} {kvs : List (Key × V)} {vs : List (Key × Value)} (z : kvs.length ≤ sizeLine) (hd : (a == sysModules) = false) (rel : KV kvs vs) (dd : h'.DictOf (mixKind P w) a vs) :
    ObjOk P w H' h' a (.dK kvs) := ⟨z, hd, vs, rel, dd⟩
theorem d_setItem {H' : Hp} {Q : Unit → Shared → Prop} (hu : A.units + 1 < cLine) (I : Inv X pins σ H s) (g : DPut H a y v H') (ry : RelV y u) (rv : RelV v r) (h : ∀ s', Inv X pins σ H' s' → Q () s') :
    wpAny (model X.prog X.w) A (setItem (.ref a) u r) Q E s := by
  rcases g with ⟨kvs, k, e, ey, l, eH⟩ | ⟨kvs, k, b, e, ey, eb, l, eH⟩
  · subst ey eH
    obtain ⟨z, hd, vs, rel, dd⟩ := dk_of I.hok e
    have hz : vs.length ≤ sizeLine := by rw [← rel.length]; exact z
    have hl : (putK kvs k v).length ≤ sizeLine := by have := length_putK kvs k v; omega
    refine wpAny_setItem_pairs (hsz := hz) (kV_is ry) dd fun h' dd' hs => h _ ?_
    have he : ∃ q, h'.get? a = some q := let ⟨q, _, _, hq, _⟩ := dd'; ⟨q, hq⟩
    exact d_write I (by rw [e]; exact True.intro) hs he (dk_new hl hd (rel.put k rv) dd')
  · subst ey eH
    cases (show u = Value.ref b from ry)
    obtain ⟨z, hd, xs, rel, dd⟩ := dt_of I.hok e
    have hz : xs.length ≤ sizeLine := by rw [← Paired.length rel]; exact z
    have hl : (putK kvs k v).length ≤ sizeLine := by have := length_putK kvs k v; omega
    refine wpAny_setItem_heap (hsz := hz) (tupleKind_room_in1 hu) (key_of I.hok eb) dd fun h' dd' hs => h _ ?_
    obtain ⟨q, es, ep, hq, h2, h3, h4, _, h5⟩ := dd'
    refine d_write I (by rw [e]; exact True.intro) hs ⟨q, hq⟩ ⟨hl, hd, _, (rel.put k eb rv).keeps fun c ys ec => ?_, q, es, ep, hq, h2, h3, h4, h5⟩
    rw [upd_ne (ne_of ec e (fun z => nomatch z))]
    exact ec
end
section
variable {X : Cx} {pins : List (Addr × Obj)} {σ : St} {H : Hp} {s : Shared} {a : Addr} {kvs : List (Key × V)} {k : Key} {u : Value} {A : Around} {E : Value → Shared → Prop}
theorem d_len {Q : Value → Shared → Prop} (I : Inv X pins σ H s) (e : Rd H a (.dK kvs)) (h : ∀ t s', Inv X pins σ H s' → Q (.int kvs.length t) s') : wpAny (model X.prog X.w) A (call (.builtin "len") [.ref a]) Q E s := by
  obtain ⟨z, hd, vs, rel, dd⟩ := dk_rd I.hok e
  refine call_len_dict hd dd (by rw [← rel.length]; rw [sizeLine_eq] at z; omega) ?_
  rw [← rel.length]
  exact h _ _ (I.tok _)
end
theorem dict_typeIs {X : Cx} {pins : List (Addr × Obj)} {σ : St} {H : Hp} {s : Shared} {a : Addr} {y : V} {o : Option V} (I : Inv X pins σ H s) (g : DGet H a y o) : s.TypeIs (.ref a) "dict" := by
  rcases g with ⟨kvs, k, e, _, _⟩ | ⟨kvs, k, b, e, _, _, _⟩
  · obtain ⟨_, _, vs, _, dd⟩ := dk_rd I.hok e
    exact dd.typeIs
  · obtain ⟨_, _, xs, _, dd⟩ := dt_rd I.hok e
    exact dd.typeIs
section
variable {X : Cx} {o i e value : Expr} {pos pos' tpos : Pos} {td ty tv : TE}
end
theorem dk_empty {P : Program} {w : World} {H : Hp} (h : Heap) (hb : sysModules < h.objs.size) : ObjOk P w H (h.push { cls := .type "dict", data := .dict #[] }) h.objs.size (.dK []) :=
  ⟨Nat.zero_le _, beq_eq_false_iff_ne.mpr (Ne.symm (Nat.ne_of_lt hb)), [], .nil, Heap.DictOf.new h⟩
def tDNewK : TE := fun _ H Q => ∀ p, H p = none → Q (.ref p) (upd H p (.dK []))
section
variable {X : Cx} {pos : Pos}
theorem pe_dnewK : PE X (.Dict [] [] pos) tDNewK := fun pins s σ H Q I h =>
  wpAny_Dict_empty ⟨.ref s.heap.objs.size, _, I.laid (a := s.heap.objs.size) (o := .dK []) (t' := s.toks) (fun _ _ q => Heap.get?_push_of_some _ q) (Nat.le_refl _) (dk_empty s.heap I.big), rfl, h _ (I.hok.fresh (Nat.le_refl _))⟩
end
def tPairs : List (TE × TE) → St → Hp → (List (V × V) → Hp → Prop) → Prop
  | [], _, H, Q => Q [] H
  | (tk, tv) :: r, σ, H, Q => tk σ H fun x H1 => tv σ H1 fun y H2 => tPairs r σ H2 fun ps H3 => Q ((x, y) :: ps) H3
abbrev VV : List (V × V) → List (Value × Value) → Prop := Paired fun p q => RelV p.1 q.1 ∧ RelV p.2 q.2
def PPs (X : Cx) (pos : Pos) (keys : List (Option Expr)) (values : List Expr) (trs : List (TE × TE)) : Prop :=
  ∀ (pins : List (Addr × Obj)) (s : Shared) (σ : St) (H : Hp) (Q : List (V × V) → Hp → Prop), Inv X pins σ H s → tPairs trs σ H Q →
    wpAny (model X.prog X.w) X.A (evalPairs (pairTrees keys values X.env pos)) (fun vs s' => ∃ ps H', Inv X pins σ H' s' ∧ VV ps vs ∧ Q ps H') X.xe s
structure M1 (X : Cx) (o : Expr) (m : Str) (apos : Pos) (e : Expr) (cpos : Pos) : Prop where
  base : attributeBase o m X.env (eval o X.env) = eval o X.env
  few : ((backTo cpos (starEach [e] X.env)).all (fun x => !x.1) && (backToKw cpos (keywordEach [] X.env)).all (fun x => x.1.isSome)
    && decide (([e] : List Expr).length + ([] : List Keyword).length + (if ([] : List Keyword).isEmpty then 0 else 1) < 30)) = true
  line : (apos.endLine == cpos.line) = true
  trees : backTo cpos (starEach [e] X.env) = [(false, eval e X.env)]
structure M2 (X : Cx) (o : Expr) (m : Str) (apos : Pos) (e f : Expr) (cpos : Pos) : Prop where
  base : attributeBase o m X.env (eval o X.env) = eval o X.env
  few : ((backTo cpos (starEach [e, f] X.env)).all (fun x => !x.1) && (backToKw cpos (keywordEach [] X.env)).all (fun x => x.1.isSome)
    && decide (([e, f] : List Expr).length + ([] : List Keyword).length + (if ([] : List Keyword).isEmpty then 0 else 1) < 30)) = true
  line : (apos.endLine == cpos.line) = true
  trees : backTo cpos (starEach [e, f] X.env) = [(false, eval e X.env), (false, eval f X.env)]
section
variable {X : Cx} {pins : List (Addr × Obj)} {σ : St} {H : Hp} {s : Shared} {a : Addr} {y d : V} {u r : Value} {o : Option V} {A : Around} {E : Value → Shared → Prop}
end
section
variable {X : Cx} {o e f : Expr} {apos cpos : Pos} {td ty tx : TE}
end
section
variable {X : Cx} {pins : List (Addr × Obj)} {σ : St} {H : Hp} {s : Shared} {a : Addr} {kvs : List (Key × V)} {A : Around} {E : Value → Shared → Prop}
end
section
variable {X : Cx} {pins : List (Addr × Obj)} {σ : St} {H : Hp} {s : Shared} {a : Addr} {y : V} {u : Value} {A : Around} {E : Value → Shared → Prop}
end
end L2
namespace L2
open PySem PySem.Spec PyProof.Rows
section
variable {prog : Program} {w : World} {A : Around} {E : Value → Shared → Prop}
end
section
variable {X : Cx}
end
end L2
namespace L2
open PySem PySem.Spec PyProof.Rows
section
variable {X : Cx} {pins : List (Addr × Obj)} {σ : St} {H : Hp} {s : Shared} {h' : Heap}
end
section
variable {X : Cx}
end
def RgC (i j c : Int) (n : Nat) : Prop := c ≠ 0 ∧ c.natAbs < 1073741824 ∧ Builtin.Range.small i j c = true ∧ Builtin.Range.rangeSize i j c = n
theorem RgC.neg {i j : Int} (ha : -(2 ^ 62) ≤ i) (ha' : i < 2 ^ 62) (hb : -(2 ^ 62) ≤ j) (hb' : j < 2 ^ 62) : RgC i j (-1) (i - j).toNat :=
  ⟨by decide, by decide, PySem.W.small_down ha ha' hb hb', PySem.W.rangeSize_downNat i j⟩
section
variable {X : Cx} {tg : Expr}
end
section
variable {X : Cx} {tg : Expr}
end
section
variable {prog : Program} {w : World} {A : Around} {E : Value → Shared → Prop} {s : Shared}
end
section
variable {X : Cx} {pins : List (Addr × Obj)} {σ : St} {H : Hp} {s : Shared} {d : Addr} {o : Obj}
end
section
variable {P : Program} {w : World} {K : PySem.W.Frag} {tg : Expr} {d : Addr} {o : Obj} {es : Array DictEntry} {ep : Nat}
end
section
variable {X : Cx} {tg e : Expr} {td : TE} {apos cpos : Pos}
end
end L2
section 
namespace Bits
open PySem PyProof.Rows
end Bits
end 
section 
namespace TL
open PySem PySem.Builtin PySem.Builtin.Str PySem.StrLaws
abbrev tl (x : Str) : List Nat := x.cps.toList
theorem len_tl (x : Str) : x.length = (tl x).length := by simp [tl, Str.length]
def pre (S l : List Nat) : Bool := l.take S.length == S
def par (S : List Nat) : List Nat → List Nat → Option (List Nat × List Nat)
  | _, [] => none
  | acc, c :: r => if pre S (c :: r) = true then some (acc, (c :: r).drop S.length) else par S (acc ++ [c]) r
theorem len1 {y : Str} (hy : tl y ≠ []) : 1 ≤ y.length := by
  have e2 : 0 < (tl y).length := List.length_pos_iff.mpr hy
  rw [len_tl y]
  exact e2
end TL
end 
namespace L2
open PySem PySem.Spec PyProof.Rows
section
variable {X : Cx} {pins : List (Addr × Obj)} {σ : St} {H : Hp} {s : Shared} {Q : VK}
end
section
variable {X : Cx}
end
section
variable {X : Cx} {o e : Expr} {to te : TE}
end
end L2
namespace L2
open PySem PySem.Spec PyProof.Rows
section
variable {X : Cx}
end
end L2
namespace Att
open PySem PySem.W PySem.Calls PyProof.Rows
theorem ints_of_wellAll {P : Params} {h : Heap} : ∀ (ns : List Int) (vs : List Value), WellAll P h vs (ns.map WData.int) → IntsAre vs ns := by
  intro ns
  induction ns with
  | nil =>
    intro vs w
    rw [List.map_nil] at w
    cases w
    exact .nil
  | cons n ns ih =>
    intro vs w
    rw [List.map_cons] at w
    cases w with
    | cons a b =>
      cases a
      exact .cons _ _ (ih _ b)
theorem script_of {l : OpenLaw} {n : Nat} (hn : l.most = some n) {P : Params} {h : Heap} {args : List WData} {vals : List Value}
    (hpre : l.row.toRowW.claim.pre args = true) (hwl : WellAll P h vals args) :
    ∃ a vs ns, vals = [Value.ref a] ∧ args = [WData.list (ns.map WData.int)] ∧ h.get? a = some { cls := .type "list", data := .seq vs.toArray } ∧ IntsAre vs ns ∧ ns.length ≤ n := by
  have hsh : WShape.hasAll [] args [.list .int] = true := (pre_splitW hpre).1
  have hc : l.pre.holds [] { args := args } = true := (pre_splitW hpre).2
  obtain ⟨d, r, rfl, h1, h2⟩ := hasAllW_cons hsh
  obtain rfl := hasAllW_nil h2
  obtain ⟨xs, rfl, h3⟩ := hasW_list h1
  obtain ⟨ns, rfl⟩ := items_int h3
  have hlen : ns.length ≤ n := by
    unfold OpenLaw.pre at hc
    have h4 : (WTm.not (.lt (.lit (.int (n : Int))) (.len (.arg 0)))).holds [] { args := [.list (ns.map .int)] } = true := by
      have h4 := (holds_andW hc).1
      rw [hn] at h4
      exact h4
    have h5 := condW_of h4 (w_not (w_lt w_lit (w_len_list (w_arg rfl))))
    rw [List.length_map] at h5
    refine Nat.le_of_not_lt fun q => ?_
    have q' : (n : Int) < ((ns.length : Nat) : Int) := by omega
    first
      | (rw [decide_eq_true q'] at h5; exact absurd h5 (by decide))
      | (simp at h5; omega)
  cases hwl with
  | cons w1 w2 =>
    cases w2
    cases w1 with
    | list ho hall => exact ⟨_, _, ns, rfl, rfl, ho, ints_of_wellAll ns _ hall, hlen⟩
theorem post_true (l : OpenLaw) (args : List WData) : l.row.toRowW.claim.post args (.bool true) args = true :=
  postW_of (r := l.row.toRowW) (X := (true == true))
    (show WShape.has [] (.bool true) .bool = true by first | rfl | decide | simp [WShape.has, WShape.arms, WShape.armsAll])
    (show (WTm.eq .res (.lit (.bool true))).value [] { args := args, res := some (.bool true), after := args } = some (.bool (true == true)) from w_eq_bool (w_res rfl) w_lit) rfl
theorem attach_call {l : OpenLaw} {n : Nat} {q : Program} {loose : List Str} {XP : (Str → Option Value) → Heap → Prop} {YP : World → Heap → Prop} {d : DefRec}
    (hn : l.most = some n) (hdf : d.params.defaults = [])
    (call : ∀ (w : World) (s₀ s₁ : Shared) (mg mb : Str → Option Value) (fa : Addr) (o : Obj) (pm cd doc : Value) (a : Addr) (vs : List Value) (ns : List Int),
      Ground q loose [] XP w s₀ mg mb s₁.heap → YP w s₁.heap →
      s₁.heap.get? fa = some o → o.data = .func (docDef d.name d.params d.body d.scope pm cd doc) → s₁.heap.CodeRec cd d.name → mg d.name = some (.ref fa) →
      s₁.heap.get? a = some { cls := .type "list", data := .seq vs.toArray } → IntsAre vs ns → ns.length ≤ n → s₁.gens = #[] →
      codeAny (model l.prog w) callerA (.call (.ref fa) ⟨[.ref a], []⟩) (fun r s' => r = .ok (.ret (.bool true)) ∧ OldK s₁.heap s'.heap ∧ s'.os = s₁.os ∧ AllBare s'.gens) s₁) :
    WalkO q loose XP YP l.row.toRowW d [] (fun f vs => PySem.call f vs) := by
  intro w s₀ s₁ mg mb G Y fa o pm cd doc dV kV ho hd hcd hD hmg hg args vals as hpre hlay hrd hwl hlo
  obtain rfl : dV = .none := Dflts.none hD hdf
  obtain rfl : kV = .none := Dflts.noKw hD
  obtain ⟨a, vs, ns, rfl, rfl, hobj, hints, hlen⟩ := script_of hn hpre hwl
  refine enter_call (codeAny_mono (call w s₀ s₁ mg mb fa o pm cd doc a vs ns G Y ho (fd_plain hd) hcd hmg hobj hints hlen hg) fun r s' hq => ?_)
  obtain ⟨rfl, h2, h3, h4⟩ := hq
  exact ⟨.inl ⟨.bool true, .bool true, [], rfl, fun _ => rfl, .bool true, post_true l _, fun _ => ⟨List.Pairwise.nil, fun _ hm => (nomatch hm)⟩⟩, h2, h3, h4⟩
section
variable {prog : Program} {w : World} {A : Around} {E : Value → Shared → Prop} {s : Shared} {K : Frag}
theorem call_fn {R : Result → Shared → Prop} {name qual : Str} {params : Arguments} {body : List Stmt} {scope : Scope} {dV kV doc pm cdv ct oc : Value} {an od : Option Addr} {osl : Array (Option Value)} {f : Addr} {args : Args} {binds : List (Str × Value)}
    (X : K.In s.heap) (hlim : s.heap.NoLimit) (ho : K.lookup f = some ⟨oc, od, .func (fnOf name qual params body scope dV kV doc pm an cdv ct), osl⟩) (hcd : codeIn K cdv qual = true) (hroom : A.depth < recursionLimit)
    (hbind : BindsTo s (fnOf name qual params body scope dV kV doc pm an cdv ct) args binds)
    (hkind : (binds.all fun y => scope.names.lookup y.1 == some .local || scope.names.lookup y.1 == some .cell) = true)
    (h : ∀ s₁, InCallC s s.heap.objs.size (bindL (envOfC qual scope s.heap.objs.size f cdv).kindOf binds fun _ => none) (cellsFrom (s.heap.objs.size + 1) scope.names [])
        (bindC (envOfC qual scope s.heap.objs.size f cdv).kindOf binds fun _ => none) s₁ →
      wpAny (model prog w) (A.deeper (envOfC qual scope s.heap.objs.size f cdv)) (execs body (envOfC qual scope s.heap.objs.size f cdv))
        (fun fl s' => R (.ok (.ret (match fl with | .ret v => v | _ => .none))) s')
        (fun e s' => wpAny (model prog w) (A.deeper (envOfC qual scope s.heap.objs.size f cdv)) (leaving (envOfC qual scope s.heap.objs.size f cdv) e) (fun _ s'' => R (.error e) s'') (fun e' s'' => R (.error e') s'') s') s₁)
    (hco : scope.isCoroutine = false) (hgen : scope.isGenerator = false) (hk : scope.kind = .function) : codeAny (model prog w) A (.call (.ref f) args) R s := by
  refine codeAny_call_function hroom (X _ _ ho) rfl hco hgen rfl (codeRec_of X hcd) (hbind _ _ _ _ ?_)
  refine wpAny_newFunctionEnv_cells hk (kindsX hkind _) fun env he s₁ x => ?_
  subst he
  exact ⟨hlim.keeps x.toInCall.keep, codeAny_func (h s₁ x)⟩
end
end Att
namespace L2
open PySem PySem.Spec PyProof.Rows
theorem vals_ints : ∀ {vs : List Value} {ns : List Int}, IntsAre vs ns → Vals (ns.map V.int) vs
  | _, _, .nil => .nil
  | _, _, .cons n t h => .cons ⟨t, rfl⟩ (vals_ints h)
def Only (H : Hp) : Prop := ∀ b, H b = none ∨ ∃ o xs, H b = some (.frz o (.lst xs))
theorem law_call {P : Program} {w : World} {K : PySem.W.Frag} {mg mb : Str → Option Value} {CX : CXT} {k : Nat} {fa a : Addr} {fd : FuncData} {x : Str} {sp : Sp} {s₁ : Shared} {vs : List Value} {ns : List Int}
    (KX : K.In s₁.heap) (hns : s₁.heap.Ns mainGlobals mg) (hb : s₁.heap.Ns builtinsNs mb) (hbb : ∀ x : Str, x ≠ "__name__" → mb x = bootBuiltins x) (hlim : s₁.heap.NoLimit) (hg : s₁.gens = #[])
    (ha : s₁.heap.get? a = some { cls := .type "list", data := .seq vs.toArray }) (hi : IntsAre vs ns) (hl : ns.length ≤ sizeLine) (hr : Room k callerA)
    (F : ∀ base : Heap, K.In base → base.Ns mainGlobals mg → FnOk P w K mg base CX k fa fd [x] sp) (hbind : ∀ (s : Shared) (u : Value), BindsTo s fd ⟨[u], []⟩ [(x, u)])
    (hsp : ∀ H : Hp, Only H → SqL K H a (ns.map V.int) → sp [.ref a] H (fun v _ => v = .bl true) fun _ _ _ => False)
    (hCX : ∀ H e s', CX [] H s₁ (fun _ _ _ => False) e s' → False) :
    codeAny (model P w) callerA (.call (.ref fa) ⟨[.ref a], []⟩) (fun r s' => r = .ok (.ret (.bool true)) ∧ OldK s₁.heap s'.heap ∧ s'.os = s₁.os ∧ AllBare s'.gens) s₁ := by
  have rv := vals_ints hi
  have lenV := hi.length
  -- from an abstract heap in which nothing but the script may be tracked
  have core : ∀ H : Hp, Only H → SqL K H a (ns.map V.int) → HOk P w H s₁.heap → (∀ b, H b ≠ none → b = a) → (H a ≠ none → K.lookup a = none) →
      codeAny (model P w) callerA (.call (.ref fa) ⟨[.ref a], []⟩) (fun r s' => r = .ok (.ret (.bool true)) ∧ OldK s₁.heap s'.heap ∧ s'.os = s₁.os ∧ AllBare s'.gens) s₁ := by
    intro H hO hS hok hA hK
    have base_of : ∀ {b : Addr} {o : Obj}, s₁.heap.get? b = some o → H b = none → (hidT s₁.heap H).get? b = some o := fun e n => hidT_get e n
    have noA : ∀ {b : Addr} {o : Obj} {es : Array DictEntry} {ep : Nat}, s₁.heap.get? b = some o → o.data = .dict es ep → H b = none := fun {b o es ep} e d => by
      cases q : H b with
      | none => rfl
      | some u =>
        have e' : b = a := hA b (by rw [q]; simp)
        subst e'
        rw [ha] at e; cases e
        have d' : Data.seq vs.toArray _ = Data.dict es ep := d
        cases d'
    have nsK : ∀ {b : Addr} {m : Str → Option Value}, s₁.heap.Ns b m → (hidT s₁.heap H).Ns b m := fun {b m} ⟨o, es, ep, e, d, r⟩ => ⟨o, es, ep, base_of e (noA e d), d, r⟩
    have hKb : K.In (hidT s₁.heap H) := fun b o e => base_of (KX b o e) (by
      cases q : H b with
      | none => rfl
      | some u =>
        have e' : b = a := hA b (by rw [q]; simp)
        subst e'
        rw [hK (by rw [q]; simp)] at e; cases e)
    have hM : Mod K mg (hidT s₁.heap H) := ⟨hKb, nsK hns, ⟨mb, nsK hb, hbb⟩, let ⟨mc, h1, h2⟩ := hlim; ⟨mc, nsK h1, h2⟩⟩
    have e0 : Env0 P w K mg (hidT s₁.heap H) callerA [] s₁ H := ⟨rfl, hM, fun b o e => of_hidT e, Nat.le_of_eq (hidT_size _ _), trivial, fun b hb => absurd (show b ∈ ([] : List Addr) from hb) (by simp), hok, .of_eq hg⟩
    refine codeAny_mono ((F _ hKb (nsK hns)).run callerA [] s₁ H ⟨[.ref a], []⟩ [.ref a] [.ref a] _ _ hr e0 (hbind s₁ (.ref a)) (.cons rfl .nil) (hsp H hO hS)) fun r s' h => ?_
    cases r with
    | error e => exact (hCX H e s' h).elim
    | ok fl =>
      cases fl with
      | next => exact False.elim h
      | brk => exact False.elim h
      | cont => exact False.elim h
      | ret u =>
        obtain ⟨v, H', os, bare, un, hok', r', q⟩ := h
        have q' : v = .bl true := q
        subst q'
        obtain rfl : u = Value.bool true := r'
        refine ⟨rfl, OldK.of_keep fun b o e => ?_, os, bare⟩
        cases q : H b with
        | none => exact un.keep b o e q (by intro z; exact absurd (show b ∈ ([] : List Addr) from z) (by simp)) (by simp)
        | some u =>
          rcases hO b with z | ⟨ob, xs, z⟩
          · rw [q] at z; cases z
          · have z2 := un.frzs b ob _ z
            obtain ⟨e1, _⟩ := hok b _ z
            obtain ⟨e2, _⟩ := hok' b _ z2
            rw [e] at e1; cases e1
            exact e2
  cases hk : K.lookup a with
  | some o =>
    -- the script is one of the module's own objects
    have e := KX a o hk
    rw [ha] at e
    cases e
    refine core (fun _ => none) (fun _ => .inl rfl) (.inr ⟨_, vs.toArray, _, hk, rfl, rfl, rfl, by rw [List.size_toArray, lenV]; exact hl, by simpa using rv⟩) (fun b u z => by have z' : (none : Option HO) = some u := z; cases z') (fun b z => absurd rfl z) fun z => absurd rfl z
  | none =>
    refine core (fun b => if b = a then some (.frz { cls := .type "list", data := .seq vs.toArray } (.lst (ns.map V.int))) else none) (fun b => ?_) (.inl (.inr ⟨{ cls := .type "list", data := .seq vs.toArray }, if_pos rfl⟩)) (fun b u z => ?_) (fun b z => ?_) fun _ => hk
    · by_cases hb : b = a
      · exact .inr ⟨_, _, if_pos hb⟩
      · exact .inl (if_neg hb)
    · by_cases hb : b = a
      · have z' := (if_pos hb).symm.trans z
        cases z'
        subst hb
        exact ⟨ha, by rw [List.length_map]; exact hl, vs, _, rv, ha⟩
      · have z' := (if_neg hb).symm.trans z
        cases z'
    · by_cases hb : b = a
      · exact hb
      · exact absurd (if_neg hb) z
end L2
namespace L2
open PySem PySem.Spec PyProof.Rows
theorem walk_of {l : PySem.W.OpenLaw} {n k : Nat} {q : Program} {loose : List Str} {XP : (Str → Option Value) → Heap → Prop} {YP : World → Heap → Prop} {d : DefRec} {K : Params → PySem.W.Frag} {CX : World → CXT} {sp : World → Sp} {x : Str}
    (hn : l.most = some n) (hn2 : n ≤ sizeLine) (hdf : d.params.defaults = []) (hr : Room k callerA)
    (hY : ∀ (w : World) (h : Heap), YP w h → (K w.params).In h)
    (F : ∀ (w : World) (mg : Str → Option Value) (fa : Addr) (h : Heap), (K w.params).In h → h.Ns mainGlobals mg → mg d.name = some (.ref fa) →
      ∃ fd : FuncData, (∀ (s : Shared) (u : Value), BindsTo s fd ⟨[u], []⟩ [(x, u)]) ∧
        ∀ base : Heap, (K w.params).In base → base.Ns mainGlobals mg → FnOk l.prog w (K w.params) mg base (CX w) k fa fd [x] (sp w))
    (hsp : ∀ (w : World) (H : Hp) (a : Addr) (ns : List Int), ns.length ≤ n → Only H → SqL (K w.params) H a (ns.map V.int) → sp w [.ref a] H (fun v _ => v = .bl true) fun _ _ _ => False)
    (hCX : ∀ (w : World) (H : Hp) (s : Shared) (e : Value) (s' : Shared), CX w [] H s (fun _ _ _ => False) e s' → False) :
    PySem.W.WalkO q loose XP YP l.row.toRowW d [] (fun f vs => PySem.call f vs) := by
  refine Att.attach_call hn hdf fun w s₀ s₁ mg mb fa o pm cd doc a vs ns G Y ho hd hcd hmg hobj hints hlen hg => ?_
  have KX := hY w _ Y
  obtain ⟨fd, hb, hF⟩ := F w mg fa _ KX G.T.g hmg
  exact law_call KX G.T.g G.T.b G.T.builtins G.T.nolimit hg hobj hints (Nat.le_trans hlen hn2) hr hF hb (fun H hO hS => hsp w H a ns hlen hO hS) fun H e s' => hCX w H s₁ e s'
end L2
namespace L2
open PySem PySem.Spec PyProof.Rows
def defArgs (s : Stmt) : Arguments := match s with
  | .FunctionDef _ a _ _ _ _ _ _ _ _ => a
  | _ => { posonlyargs := [], args := [], vararg := none, kwonlyargs := [], kw_defaults := [], kwarg := none, defaults := [] }
def defBody (s : Stmt) : List Stmt := match s with
  | .FunctionDef _ _ b _ _ _ _ _ _ _ => b
  | _ => []
def defScope (s : Stmt) : Scope := match s with
  | .FunctionDef _ _ _ _ _ _ sc _ _ _ => sc
  | _ => { kind := .function, names := [], isGenerator := false, isCoroutine := false }
abbrev CX0 : CXT := fun _ _ _ _ _ _ => False
abbrev E0 : XK := fun _ _ _ => False
theorem pass0 {X : Cx} : Passes CX0 X E0 := fun _ _ _ _ _ _ _ h => h.elim
structure Fun (K : PySem.W.Frag) (x qual : Str) (st : Stmt) (f : Addr) (fd : FuncData) : Prop where
  ex : ∃ (oc : Value) (od : Option Addr) (kV doc pm : Value) (an : Option Addr) (cdv ct : Value) (osl : Array (Option Value)),
    fd = PySem.W.fnOf x qual (defArgs st) (defBody st) (defScope st) .none kV doc pm an cdv ct ∧ K.lookup f = some ⟨oc, od, .func fd, osl⟩ ∧ PySem.W.codeIn K cdv qual = true
  kp : PySem.W.keepIn K (.ref f) = true
section
variable {P : Program} {w : World} {K : PySem.W.Frag} {mg : Str → Option Value} {base : Heap}
theorem Fun.ok {x qual : Str} {st : Stmt} {f : Addr} {fd : FuncData} {N ps : List Str} {k : Nat} {sp : Sp} (F : Fun K x qual st f fd) (S : FnScope N ps (defScope st)) (len : ∀ vs H Q E, sp vs H Q E → vs.length = ps.length)
    (hbody : ∀ (cdv : Value) (A : Around) (outer : List Env) (s : Shared) (H : Hp) (vs : List V) (Q : VK) (E : XK), Room k (A.deeper (envOfC qual (defScope st) s.heap.objs.size f cdv)) → sp vs H Q E →
      ∃ t, PSs (cxOf CX0 P w K mg base N qual (defScope st) f cdv A outer s H E).nox (defBody st) t ∧ t { nx := fun _ H' => Q .non H', rt := Q } (start N vs) H) : FnOk P w K mg base CX0 (k + 1) f fd ps sp := by
  obtain ⟨oc, od, kV, doc, pm, an, cdv, ct, osl, rfl, lk, hcd⟩ := F.ex
  refine fn_of lk hcd S len fun A outer s H vs Q E hr hsp => ?_
  obtain ⟨t, h, q⟩ := hbody cdv A outer s H vs Q E hr hsp
  exact ⟨t, h.nox, q⟩
theorem Fun.binds {x qual : Str} {st : Stmt} {f : Addr} {fd : FuncData} {ps : List Str} (F : Fun K x qual st f fd)
    (h : ∀ (kV doc pm : Value) (an : Option Addr) (cdv ct : Value) (us : List Value), us.length = ps.length → bindArgs (PySem.W.fnOf x qual (defArgs st) (defBody st) (defScope st) .none kV doc pm an cdv ct) ⟨us, []⟩ = pure (ps.zip us)) : Binds K fd ps [] := by
  obtain ⟨oc, od, kV, doc, pm, an, cdv, ct, osl, rfl, lk, hcd⟩ := F.ex
  exact .all (h kV doc pm an cdv ct)
end
theorem hu_of {A : Around} {k : Nat} (hr : Room k A) : A.units + 1 < cLine := Nat.lt_of_le_of_lt (Nat.add_le_add_left (by decide : 1 ≤ 64) _) hr.units
section
variable {X : Cx}
theorem call_lenD : CallR X (.builtin "len") (fun xs H Q => ∃ a kvs, xs = [V.ref a] ∧ H a = some (.dK kvs) ∧ Q (.int kvs.length) H) := by
  intro pins s σ H xs us Q I r h
  obtain ⟨a, kvs, rfl, ha, q⟩ := h
  obtain ⟨u, rfl, ru⟩ := vals1 r
  cases ru
  exact d_len I (.inl ha) fun t s' I' => ⟨.int kvs.length, H, I', ⟨t, rfl⟩, q⟩
end
def Same (H H' : Hp) : Prop := ∀ b o, H b = some o → H' b = some o
theorem Same.refl (H : Hp) : Same H H := fun _ _ h => h
theorem Same.trans {H H1 H2 : Hp} (a : Same H H1) (b : Same H1 H2) : Same H H2 := fun c o h => b c o (a c o h)
theorem Same.free {H H' : Hp} (e : Same H H') {l : Addr} (h : H' l = Option.none) : H l = Option.none := by
  cases q : H l with
  | none => rfl
  | some o =>
    rw [e l o q] at h
    cases h
theorem Same.seq {K : PySem.W.Frag} {H H' : Hp} {a : Addr} {xs : List V} (e : Same H H') (h : SqL K H a xs) : SqL K H' a xs := by
  rcases h with (h | ⟨o, h⟩) | h
  · exact .inl (.inl (e _ _ h))
  · exact .inl (.inr ⟨o, e _ _ h⟩)
  · exact .inr h
section
variable {κ : Type} [DecidableEq κ]
end
theorem Same.made {H H1 : Hp} {x dx C : Addr} (nx : H x = Option.none) (nd : H dx = Option.none) (k : ∀ b o, (upd (upd H dx (.own x)) x (.ins C dx [])) b = some o → b ≠ x → H1 b = some o) : Same H H1 := fun b o e =>
  k b o (by rw [upd_ne (ne_of_none e nx), upd_ne (ne_of_none e nd)]; exact e) (ne_of_none e nx)
end L2
set_option Elab.async false
set_option linter.all false
set_option autoImplicit false
set_option maxRecDepth 100000
namespace EV
open PySem PySem.Spec PyProof.Rows L2
inductive D where
  | non | bl (b : Bool) | int (i : Int) | str (x : Str) | tup (xs : List D) | fz (xs : List D) | ref (n : Nat) | exc (n f : Str) (xs : List D)
  deriving Inhabited
inductive AO where
  | lst (xs : List D) | dct (kvs : List (Key × D)) | dtt (kvs : List (List Key × D))
  deriving Inhabited
abbrev AH := List AO
structure Ex where
  cls : Str
  fs : List (Str × D)
inductive R (α : Type) where
  | ok (a : α) (h : AH) | ex (e : Ex) (h : AH) | bad
def R.bind {α β : Type} (r : R α) (k : α → AH → R β) : R β := match r with
  | .ok a h => k a h
  | .ex e h => .ex e h
  | .bad => .bad
theorem bind_ok {α β : Type} (a : α) (h : AH) (k : α → AH → R β) : (R.ok a h).bind k = k a h := id rfl
theorem bind_eq {α β : Type} {r : R α} {k : α → AH → R β} {b : β} {h' : AH} (e : r.bind k = .ok b h') : ∃ a h, r = .ok a h ∧ k a h = .ok b h' := by
  cases r with
  | ok a h => exact ⟨a, h, rfl, e⟩
  | ex x h => cases e
  | bad => cases e
def SqF (K : PySem.W.Frag) (H : Hp) (a : Addr) (xs : List V) : Prop :=
  (∃ o, H a = some (.frz o (.lst xs))) ∨
    ∃ (o : Obj) (its : Array Value) (n : Nat), K.lookup a = some o ∧ o.cls = .type "list" ∧ o.dict = none ∧ o.data = .seq its n ∧ its.size ≤ sizeLine ∧ Vals xs its.toList
theorem SqF.sq {K : PySem.W.Frag} {H : Hp} {a : Addr} {xs : List V} (h : SqF K H a xs) : SqL K H a xs := by
  rcases h with ⟨o, h⟩ | h
  · exact .inl (.inr ⟨o, h⟩)
  · exact .inr h
def ExA (K : PySem.W.Frag) (H : Hp) (a : Addr) (n f : Str) (ys : List V) : Prop :=
  ∃ (oe : Obj) (C : Addr), H a = some (.frz oe (.own a)) ∧ PySem.W.nsIn K mainGlobals n = some (some (.ref C)) ∧ oe.cls = .ref C ∧ PySem.W.notCls oe = true ∧
    (ys = [] ∨ ∃ (dx : Addr) (od : Obj) (y : V) (v : Value), ys = [y] ∧ oe.dict = some dx ∧ H dx = some (.frz od (.own a)) ∧ PySem.W.lookIn f od = some (some v) ∧ RelV y v)
mutual
inductive RV (K : PySem.W.Frag) (ρ : List Addr) (H : Hp) : D → V → Prop
  | non : RV K ρ H .non .non
  | bl (b : Bool) : RV K ρ H (.bl b) (.bl b)
  | int (i : Int) : RV K ρ H (.int i) (.int i)
  | str (x : Str) : RV K ρ H (.str x) (.str x)
  | tup {a : Addr} {xs : List D} {ys : List V} : SqT K H a ys → RVs K ρ H xs ys → RV K ρ H (.tup xs) (.ref a)
  | fz {a : Addr} {xs : List D} {ys : List V} : SqF K H a ys → RVs K ρ H xs ys → RV K ρ H (.fz xs) (.ref a)
  | ref {n : Nat} {a : Addr} : ρ[n]? = some a → RV K ρ H (.ref n) (.ref a)
  | exc {a : Addr} {n f : Str} {xs : List D} {ys : List V} : ExA K H a n f ys → RVs K ρ H xs ys → RV K ρ H (.exc n f xs) (.ref a)
inductive RVs (K : PySem.W.Frag) (ρ : List Addr) (H : Hp) : List D → List V → Prop
  | nil : RVs K ρ H [] []
  | cons {x : D} {y : V} {xs : List D} {ys : List V} : RV K ρ H x y → RVs K ρ H xs ys → RVs K ρ H (x :: xs) (y :: ys)
end
structure Ext (K : PySem.W.Frag) (ρ : List Addr) (H : Hp) (ρ' : List Addr) (H' : Hp) : Prop where
  pre : ∀ (n : Nat) (a : Addr), ρ[n]? = some a → ρ'[n]? = some a
  tup : ∀ (a : Addr) (ys : List V), SqT K H a ys → SqT K H' a ys
  fz : ∀ (a : Addr) (ys : List V), SqF K H a ys → SqF K H' a ys
  exc : ∀ (a : Addr) (n f : Str) (ys : List V), ExA K H a n f ys → ExA K H' a n f ys
theorem Ext.refl {K : PySem.W.Frag} {ρ : List Addr} {H : Hp} : Ext K ρ H ρ H := ⟨fun _ _ h => h, fun _ _ h => h, fun _ _ h => h, fun _ _ _ _ h => h⟩
theorem Ext.trans {K : PySem.W.Frag} {ρ ρ1 ρ2 : List Addr} {H H1 H2 : Hp} (a : Ext K ρ H ρ1 H1) (b : Ext K ρ1 H1 ρ2 H2) : Ext K ρ H ρ2 H2 :=
  ⟨fun n x h => b.pre n x (a.pre n x h), fun x y h => b.tup x y (a.tup x y h), fun x y h => b.fz x y (a.fz x y h), fun x n f y h => b.exc x n f y (a.exc x n f y h)⟩
mutual
theorem RV.up {K : PySem.W.Frag} {ρ ρ' : List Addr} {H H' : Hp} (e : Ext K ρ H ρ' H') : ∀ {d : D} {v : V}, RV K ρ H d v → RV K ρ' H' d v
  | _, _, .non => .non
  | _, _, .bl b => .bl b
  | _, _, .int i => .int i
  | _, _, .str x => .str x
  | _, _, .tup h r => .tup (e.tup _ _ h) (RVs.up e r)
  | _, _, .fz h r => .fz (e.fz _ _ h) (RVs.up e r)
  | _, _, .ref h => .ref (e.pre _ _ h)
  | _, _, .exc h r => .exc (e.exc _ _ _ _ h) (RVs.up e r)
theorem RVs.up {K : PySem.W.Frag} {ρ ρ' : List Addr} {H H' : Hp} (e : Ext K ρ H ρ' H') : ∀ {xs : List D} {ys : List V}, RVs K ρ H xs ys → RVs K ρ' H' xs ys
  | _, _, .nil => .nil
  | _, _, .cons a b => .cons (RV.up e a) (RVs.up e b)
end
section
variable {K : PySem.W.Frag} {ρ : List Addr} {H : Hp}
theorem RVs.length : ∀ {xs : List D} {ys : List V}, RVs K ρ H xs ys → xs.length = ys.length
  | _, _, .nil => rfl
  | _, _, .cons _ b => by simp [RVs.length b]
theorem RVs.get : ∀ {xs : List D} {ys : List V} {i : Nat} {x : D}, RVs K ρ H xs ys → xs[i]? = some x → ∃ y, ys[i]? = some y ∧ RV K ρ H x y
  | _, _, _, _, .nil, e => by simp at e
  | _, _, 0, _, .cons a _, e => by simp at e; subst e; exact ⟨_, rfl, a⟩
  | _, _, i + 1, x, .cons _ b, e => by
    obtain ⟨y, h1, h2⟩ := RVs.get (i := i) (x := x) b (by simpa using e)
    exact ⟨y, by simpa using h1, h2⟩
theorem RVs.app : ∀ {xs xs' : List D} {ys ys' : List V}, RVs K ρ H xs ys → RVs K ρ H xs' ys' → RVs K ρ H (xs ++ xs') (ys ++ ys')
  | _, _, _, _, .nil, s => s
  | _, _, _, _, .cons a b, s => .cons a (RVs.app b s)
theorem RVs.set {x : D} {y : V} (r : RV K ρ H x y) : ∀ {xs : List D} {ys : List V} (i : Nat), RVs K ρ H xs ys → RVs K ρ H (xs.set i x) (ys.set i y)
  | _, _, _, .nil => .nil
  | _, _, 0, .cons _ b => .cons r b
  | _, _, i + 1, .cons a b => .cons a (RVs.set r i b)
theorem RVs.drop : ∀ {xs : List D} {ys : List V} (n : Nat), RVs K ρ H xs ys → RVs K ρ H (xs.drop n) (ys.drop n)
  | _, _, 0, h => h
  | _, _, _ + 1, .nil => .nil
  | _, _, n + 1, .cons _ b => RVs.drop n b
theorem RVs.take : ∀ {xs : List D} {ys : List V} (n : Nat), RVs K ρ H xs ys → RVs K ρ H (xs.take n) (ys.take n)
  | _, _, 0, _ => .nil
  | _, _, _ + 1, .nil => .nil
  | _, _, n + 1, .cons a b => .cons a (RVs.take n b)
theorem RVs.ints (ns : List Int) : RVs K ρ H (ns.map D.int) (ns.map V.int) := by
  induction ns with
  | nil => exact .nil
  | cons n ns ih => exact .cons (.int n) ih
end
inductive RK {κ : Type} (K : PySem.W.Frag) (ρ : List Addr) (H : Hp) : List (κ × D) → List (κ × V) → Prop
  | nil : RK K ρ H [] []
  | cons {k : κ} {x : D} {y : V} {xs : List (κ × D)} {ys : List (κ × V)} : RV K ρ H x y → RK K ρ H xs ys → RK K ρ H ((k, x) :: xs) ((k, y) :: ys)
theorem RK.up {κ : Type} {K : PySem.W.Frag} {ρ ρ' : List Addr} {H H' : Hp} (e : Ext K ρ H ρ' H') {xs : List (κ × D)} {ys : List (κ × V)} (r : RK K ρ H xs ys) : RK K ρ' H' xs ys := by
  induction r with
  | nil => exact .nil
  | cons a _ ih => exact .cons (a.up e) ih
def dget {κ : Type} [DecidableEq κ] (kvs : List (κ × D)) (k : κ) : Option D := (kvs.find? fun kv => decide (kv.1 = k)).map (·.2)
def dput {κ : Type} [DecidableEq κ] (kvs : List (κ × D)) (k : κ) (v : D) : List (κ × D) :=
  if (kvs.any fun kv => decide (kv.1 = k)) = true then kvs.map (fun kv => if kv.1 = k then (kv.1, v) else kv) else kvs ++ [(k, v)]
section
variable {κ : Type} [DecidableEq κ] {K : PySem.W.Frag} {ρ : List Addr} {H : Hp}
theorem RK.length {xs : List (κ × D)} {ys : List (κ × V)} (r : RK K ρ H xs ys) : xs.length = ys.length := by
  induction r with
  | nil => rfl
  | cons _ _ ih => simp [ih]
theorem RK.get {xs : List (κ × D)} {ys : List (κ × V)} {k : κ} (r : RK K ρ H xs ys) : (dget xs k = none ∧ valV ys k = none) ∨ ∃ x y, dget xs k = some x ∧ valV ys k = some y ∧ RV K ρ H x y := by
  induction r with
  | nil => exact .inl ⟨rfl, rfl⟩
  | @cons k' x y xs ys a b ih =>
    by_cases e : k' = k
    · exact .inr ⟨x, y, by simp [dget, List.find?_cons, e], by simp [valV, List.find?_cons, e], a⟩
    · rcases ih with ⟨h1, h2⟩ | ⟨x', y', h1, h2, h3⟩
      · exact .inl ⟨by simpa [dget, List.find?_cons, e] using h1, by simpa [valV, List.find?_cons, e] using h2⟩
      · exact .inr ⟨x', y', by simpa [dget, List.find?_cons, e] using h1, by simpa [valV, List.find?_cons, e] using h2, h3⟩
theorem RK.any {xs : List (κ × D)} {ys : List (κ × V)} {k : κ} (r : RK K ρ H xs ys) : (xs.any fun kv => decide (kv.1 = k)) = (ys.any fun kv => decide (kv.1 = k)) := by
  induction r with
  | nil => rfl
  | cons _ _ ih => simp [List.any_cons, ih]
theorem RK.app {xs xs' : List (κ × D)} {ys ys' : List (κ × V)} (r : RK K ρ H xs ys) (s : RK K ρ H xs' ys') : RK K ρ H (xs ++ xs') (ys ++ ys') := by
  induction r with
  | nil => exact s
  | cons a _ ih => exact .cons a ih
theorem RK.map {xs : List (κ × D)} {ys : List (κ × V)} {k : κ} {x : D} {y : V} (a : RV K ρ H x y) (r : RK K ρ H xs ys) : RK K ρ H (xs.map fun kv => if kv.1 = k then (kv.1, x) else kv) (ys.map fun kv => if kv.1 = k then (kv.1, y) else kv) := by
  induction r with
  | nil => exact .nil
  | @cons k' x' y' _ _ b _ ih =>
    simp only [List.map_cons]
    by_cases e : k' = k
    · rw [if_pos e, if_pos e]; exact .cons a ih
    · rw [if_neg e, if_neg e]; exact .cons b ih
theorem RK.put {xs : List (κ × D)} {ys : List (κ × V)} {k : κ} {x : D} {y : V} (a : RV K ρ H x y) (r : RK K ρ H xs ys) : RK K ρ H (dput xs k x) (putK ys k y) := by
  unfold dput putK
  rw [r.any (k := k)]
  split
  · exact r.map a
  · exact r.app (.cons a .nil)
end
def RO (K : PySem.W.Frag) (ρ : List Addr) (H : Hp) : AO → Addr → Prop
  | .lst xs, a => ∃ ys, H a = some (.lst ys) ∧ RVs K ρ H xs ys
  | .dct kvs, a => ∃ ys, H a = some (.dK ys) ∧ RK K ρ H kvs ys
  | .dtt kvs, a => ∃ ys, H a = some (.dT ys) ∧ RK K ρ H kvs ys
structure RH (K : PySem.W.Frag) (ρ : List Addr) (h : AH) (H : Hp) : Prop where
  len : ρ.length = h.length
  nd : ∀ (n m : Nat) (a : Addr), ρ[n]? = some a → ρ[m]? = some a → n = m
  ob : ∀ (n : Nat) (o : AO) (a : Addr), h[n]? = some o → ρ[n]? = some a → RO K ρ H o a
section
variable {K : PySem.W.Frag} {ρ ρ' : List Addr} {h : AH} {H H' : Hp}
theorem RH.nil {H : Hp} : RH K [] [] H := ⟨rfl, fun n m a e => by simp at e, fun n o a e => by simp at e⟩
theorem RH.at (r : RH K ρ h H) {n : Nat} {o : AO} (e : h[n]? = some o) : ∃ a, ρ[n]? = some a ∧ RO K ρ H o a := by
  have hn : n < h.length := (List.getElem?_eq_some_iff.mp e).1
  have hn' : n < ρ.length := by rw [r.len]; exact hn
  exact ⟨ρ[n], List.getElem?_eq_getElem hn', r.ob n o _ e (List.getElem?_eq_getElem hn')⟩
theorem RH.mut (r : RH K ρ h H) {n : Nat} {a : Addr} (e : ρ[n]? = some a) : Mut (H a) := by
  have hn : n < ρ.length := (List.getElem?_eq_some_iff.mp e).1
  have hn' : n < h.length := by rw [← r.len]; exact hn
  have := r.ob n h[n] a (List.getElem?_eq_getElem hn') e
  cases q : h[n] with
  | lst xs =>
    rw [q] at this
    obtain ⟨ys, e, _⟩ := this
    rw [e]; trivial
  | dct kvs =>
    rw [q] at this
    obtain ⟨ys, e, _⟩ := this
    rw [e]; trivial
  | dtt kvs =>
    rw [q] at this
    obtain ⟨ys, e, _⟩ := this
    rw [e]; trivial
theorem SqT.upd_ne {a p : Addr} {o : HO} {ys : List V} (s : SqT K H a ys) (hp : H p = none ∨ Mut (H p)) : SqT K (upd H p o) a ys := by
  rcases s with (s | ⟨ob, s⟩) | s
  · refine .inl (.inl ?_)
    have : a ≠ p := by
      rintro rfl
      rcases hp with hp | hp
      · rw [s] at hp; cases hp
      · rw [s] at hp; exact hp
    rw [L2.upd_ne this]; exact s
  · refine .inl (.inr ⟨ob, ?_⟩)
    have : a ≠ p := by
      rintro rfl
      rcases hp with hp | hp
      · rw [s] at hp; cases hp
      · rw [s] at hp; exact hp
    rw [L2.upd_ne this]; exact s
  · exact .inr s
theorem SqF.upd_ne {a p : Addr} {o : HO} {ys : List V} (s : SqF K H a ys) (hp : H p = none ∨ Mut (H p)) : SqF K (upd H p o) a ys := by
  rcases s with ⟨ob, s⟩ | s
  · refine .inl ⟨ob, ?_⟩
    have : a ≠ p := by
      rintro rfl
      rcases hp with hp | hp
      · rw [s] at hp; cases hp
      · rw [s] at hp; exact hp
    rw [L2.upd_ne this]; exact s
  · exact .inr s
theorem frz_ne {a p : Addr} {o : HO} {ob : Obj} {u : HO} (s : H a = some (.frz ob u)) (hp : H p = none ∨ Mut (H p)) : upd H p o a = some (.frz ob u) := by
  have : a ≠ p := by
    rintro rfl
    rcases hp with hp | hp
    · rw [s] at hp; cases hp
    · rw [s] at hp; exact hp
  rw [L2.upd_ne this]; exact s
theorem ExA.upd_ne {a p : Addr} {o : HO} {n f : Str} {ys : List V} (s : ExA K H a n f ys) (hp : H p = none ∨ Mut (H p)) : ExA K (upd H p o) a n f ys := by
  obtain ⟨oe, C, h1, h2, h3, h4, h5⟩ := s
  refine ⟨oe, C, frz_ne h1 hp, h2, h3, h4, ?_⟩
  rcases h5 with h5 | ⟨dx, od, y, v, e1, e2, e3, e4, e5⟩
  · exact .inl h5
  · exact .inr ⟨dx, od, y, v, e1, e2, frz_ne e3 hp, e4, e5⟩
theorem Ext.upd {p : Addr} {o : HO} (hp : H p = none ∨ Mut (H p)) : Ext K ρ H ρ (upd H p o) := ⟨fun _ _ h => h, fun _ _ s => SqT.upd_ne s hp, fun _ _ s => SqF.upd_ne s hp, fun _ _ _ _ s => ExA.upd_ne s hp⟩
theorem pre_app {p : Addr} (n : Nat) (a : Addr) (h : ρ[n]? = some a) : (ρ ++ [p])[n]? = some a := by
  rw [List.getElem?_append_left (List.getElem?_eq_some_iff.mp h).1]; exact h
theorem Ext.new {p : Addr} {o : HO} (hp : H p = none) : Ext K ρ H (ρ ++ [p]) (L2.upd H p o) := ⟨pre_app, fun _ _ s => SqT.upd_ne s (.inl hp), fun _ _ s => SqF.upd_ne s (.inl hp), fun _ _ _ _ s => ExA.upd_ne s (.inl hp)⟩
theorem RO.up {o : AO} {a : Addr} (e : Ext K ρ H ρ' H') (ha : H' a = H a) (r : RO K ρ H o a) : RO K ρ' H' o a := by
  cases o with
  | lst xs => obtain ⟨ys, h1, h2⟩ := r; exact ⟨ys, ha.trans h1, h2.up e⟩
  | dct kvs => obtain ⟨ys, h1, h2⟩ := r; exact ⟨ys, ha.trans h1, h2.up e⟩
  | dtt kvs => obtain ⟨ys, h1, h2⟩ := r; exact ⟨ys, ha.trans h1, h2.up e⟩
theorem RH.laid (r : RH K ρ h H) {p : Addr} {o : HO} (hp : H p = none) : RH K ρ h (L2.upd H p o) :=
  ⟨r.len, r.nd, fun n ob a e1 e2 => (r.ob n ob a e1 e2).up (Ext.upd (.inl hp)) (L2.upd_ne (by
    rintro rfl
    have := r.mut e2
    rw [hp] at this; exact this))⟩
theorem RH.new (r : RH K ρ h H) {p : Addr} {o : AO} {u : HO} (hp : H p = none) (ho : RO K (ρ ++ [p]) (L2.upd H p u) o p) : RH K (ρ ++ [p]) (h ++ [o]) (L2.upd H p u) := by
  have ne : ∀ (n : Nat) (a : Addr), ρ[n]? = some a → a ≠ p := by
    rintro n a e rfl
    have := r.mut e
    rw [hp] at this; exact this
  refine ⟨by simp [r.len], fun n m a e1 e2 => ?_, fun n ob a e1 e2 => ?_⟩
  · by_cases hn : n < ρ.length
    · rw [List.getElem?_append_left hn] at e1
      by_cases hm : m < ρ.length
      · rw [List.getElem?_append_left hm] at e2; exact r.nd n m a e1 e2
      · rw [List.getElem?_append_right (by omega)] at e2
        have : a = p := by
          cases q : m - ρ.length with
          | zero => rw [q] at e2; simpa using e2.symm
          | succ k => rw [q] at e2; simp at e2
        exact absurd this (ne n a e1)
    · rw [List.getElem?_append_right (by omega)] at e1
      have h1 : n = ρ.length ∧ a = p := by
        cases q : n - ρ.length with
        | zero => rw [q] at e1; exact ⟨by omega, by simpa using e1.symm⟩
        | succ k => rw [q] at e1; simp at e1
      by_cases hm : m < ρ.length
      · rw [List.getElem?_append_left hm] at e2
        exact absurd h1.2 (ne m a e2)
      · rw [List.getElem?_append_right (by omega)] at e2
        cases q : m - ρ.length with
        | zero => omega
        | succ k => rw [q] at e2; simp at e2
  · by_cases hn : n < h.length
    · rw [List.getElem?_append_left hn] at e1
      rw [List.getElem?_append_left (by rw [r.len]; exact hn)] at e2
      exact (r.ob n ob a e1 e2).up (Ext.new hp) (L2.upd_ne (ne n a e2))
    · rw [List.getElem?_append_right (by omega)] at e1
      rw [List.getElem?_append_right (by rw [r.len]; omega)] at e2
      cases q : n - h.length with
      | zero =>
        rw [q] at e1
        rw [r.len, q] at e2
        simp at e1 e2
        subst e1 e2
        exact ho
      | succ k => rw [q] at e1; simp at e1
theorem RH.set (r : RH K ρ h H) {n : Nat} {a : Addr} {o : AO} {u : HO} (ha : ρ[n]? = some a) (ho : RO K ρ (L2.upd H a u) o a) : RH K ρ (h.set n o) (L2.upd H a u) := by
  refine ⟨by simp [r.len], r.nd, fun m ob b e1 e2 => ?_⟩
  by_cases hm : n = m
  · subst hm
    rw [ha] at e2; cases e2
    have hn : n < h.length := by rw [← r.len]; exact (List.getElem?_eq_some_iff.mp ha).1
    rw [List.getElem?_set_self hn] at e1; cases e1
    exact ho
  · rw [List.getElem?_set_ne hm] at e1
    refine (r.ob m ob b e1 e2).up (Ext.upd (.inr (r.mut ha))) (L2.upd_ne ?_)
    rintro rfl
    exact hm (r.nd n m b ha e2)
end
end EV
set_option Elab.async false
set_option linter.all false
set_option autoImplicit false
set_option maxRecDepth 100000
namespace EV
open PySem PySem.Spec PyProof.Rows L2
abbrev Fr := List (Option D)
abbrev EF := Fr → AH → R D
abbrev TF := Fr → AH → R Bool
abbrev AF := Fr → AH → R (List D)
inductive Fl where
  | next (σ : Fr) | brk (σ : Fr) | cont (σ : Fr) | ret (v : D)
abbrev SF := Fr → AH → R Fl
abbrev GF := D → Fr → AH → R Fr
structure RS (K : PySem.W.Frag) (ρ : List Addr) (H : Hp) (σa : Fr) (σ : L2.St) : Prop where
  len : σa.length = σ.length
  at_ : ∀ (i : Nat) (d : D), σa[i]? = some (some d) → ∃ v, σ[i]? = some (some v) ∧ RV K ρ H d v
section
variable {K : PySem.W.Frag} {ρ ρ' : List Addr} {H H' : Hp} {σa : Fr} {σ : L2.St}
theorem RS.up (r : RS K ρ H σa σ) (e : Ext K ρ H ρ' H') : RS K ρ' H' σa σ := ⟨r.len, fun i d h => let ⟨v, h1, h2⟩ := r.at_ i d h; ⟨v, h1, h2.up e⟩⟩
theorem RS.set (r : RS K ρ H σa σ) {d : D} {v : V} (i : Nat) (rv : RV K ρ H d v) : RS K ρ H (σa.set i (some d)) (σ.set i (some v)) := by
  refine ⟨by simp [r.len], fun j x h => ?_⟩
  by_cases e : i = j
  · subst e
    by_cases hi : i < σa.length
    · rw [List.getElem?_set_self hi] at h; cases h
      exact ⟨v, List.getElem?_set_self (by rw [← r.len]; exact hi), rv⟩
    · rw [List.getElem?_eq_none (by simpa using hi)] at h; cases h
  · rw [List.getElem?_set_ne e] at h ⊢
    exact r.at_ j x h
end
def tE (K : PySem.W.Frag) (f : EF) : TE := fun σ H Q => ∃ ρ σa h v h', RH K ρ h H ∧ RS K ρ H σa σ ∧ f σa h = .ok v h' ∧ ∀ ρ' y H', Ext K ρ H ρ' H' → RH K ρ' h' H' → RV K ρ' H' v y → Q y H'
def tT (K : PySem.W.Frag) (f : TF) : TT := fun σ H Q => ∃ ρ σa h b h', RH K ρ h H ∧ RS K ρ H σa σ ∧ f σa h = .ok b h' ∧ ∀ ρ' H', Ext K ρ H ρ' H' → RH K ρ' h' H' → Q b H'
def tA (K : PySem.W.Frag) (f : AF) : TA := fun σ H Q => ∃ ρ σa h vs h', RH K ρ h H ∧ RS K ρ H σa σ ∧ f σa h = .ok vs h' ∧ ∀ ρ' ys H', Ext K ρ H ρ' H' → RH K ρ' h' H' → RVs K ρ' H' vs ys → Q ys H'
def Post (K : PySem.W.Frag) (ρ : List Addr) (H : Hp) (D : Ends) : Fl → Prop
  | .next σa => ∀ σ, RS K ρ H σa σ → D.nx σ H
  | .brk σa => ∀ σ, RS K ρ H σa σ → D.bk σ H
  | .cont σa => ∀ σ, RS K ρ H σa σ → D.ct σ H
  | .ret v => ∀ y, RV K ρ H v y → D.rt y H
def tS (K : PySem.W.Frag) (f : SF) : TS := fun D σ H => ∃ ρ σa h fl h', RH K ρ h H ∧ RS K ρ H σa σ ∧ f σa h = .ok fl h' ∧ ∀ ρ' H', Ext K ρ H ρ' H' → RH K ρ' h' H' → Post K ρ' H' D fl
structure Out (vs : List Nat) (σ σ' : L2.St) : Prop where
  len : σ'.length = σ.length
  eq : ∀ i : Nat, i ∉ vs → σ'[i]? = σ[i]?
def tG (K : PySem.W.Frag) (vs : List Nat) (g : GF) : TG := fun v σ H Q => ∃ ρ σa h d σa' h', RH K ρ h H ∧ RS K ρ H σa σ ∧ RV K ρ H d v ∧ g d σa h = .ok σa' h' ∧ ∀ ρ' σ' H', Ext K ρ H ρ' H' → RH K ρ' h' H' → RS K ρ' H' σa' σ' → Out vs σ σ' → Q σ' H'
structure SE (X : Cx) (e : Expr) (f : EF) : Prop where
  out : PE X e (tE X.K f)
structure ST (X : Cx) (e : Expr) (f : TF) : Prop where
  out : PT X e (tT X.K f)
structure SW (X : Cx) (e : Expr) (f : TF) : Prop where
  out : PW X e (tT X.K f)
structure SA (X : Cx) (es : List Expr) (f : AF) : Prop where
  out : PA X es (tA X.K f)
structure SS (X : Cx) (st : Stmt) (f : SF) : Prop where
  out : PS X st (tS X.K f)
structure SSs (X : Cx) (st : List Stmt) (f : SF) : Prop where
  out : PSs X st (tS X.K f)
structure SG (X : Cx) (tg : Expr) (vs : List Nat) (g : GF) : Prop where
  out : PG X tg (tG X.K vs g)
section
variable {X : Cx} {e : Expr}
theorem PE.of {t t' : TE} (h : PE X e t) (i : ∀ σ H Q, t' σ H Q → t σ H Q) : PE X e t' := fun pins s σ H Q I q => h pins s σ H Q I (i σ H Q q)
theorem PT.of {t t' : TT} (h : PT X e t) (i : ∀ σ H Q, t' σ H Q → t σ H Q) : PT X e t' := fun pins s σ H Q I q => h pins s σ H Q I (i σ H Q q)
theorem PW.of {t t' : TT} (h : PW X e t) (i : ∀ σ H Q, t' σ H Q → t σ H Q) : PW X e t' := fun whole pins s σ H Q I q => h whole pins s σ H Q I (i σ H Q q)
theorem PA.of {es : List Expr} {t t' : TA} (h : PA X es t) (i : ∀ σ H Q, t' σ H Q → t σ H Q) : PA X es t' := fun pos pins s σ H Q I q => h pos pins s σ H Q I (i σ H Q q)
theorem PS.of {st : Stmt} {t t' : TS} (h : PS X st t) (i : ∀ D σ H, t' D σ H → t D σ H) : PS X st t' := fun pins s σ H D I q => h pins s σ H D I (i D σ H q)
theorem PSs.of {st : List Stmt} {t t' : TS} (h : PSs X st t) (i : ∀ D σ H, t' D σ H → t D σ H) : PSs X st t' := fun pins s σ H D I q => h pins s σ H D I (i D σ H q)
theorem PG.of {tg : Expr} {t t' : TG} (h : PG X tg t) (i : ∀ v σ H Q, t' v σ H Q → t v σ H Q) : PG X tg t' := fun pins s σ H v u Q I r q => h pins s σ H v u Q I r (i v σ H Q q)
end
def eVar (i : Nat) : EF := fun σ h => match σ[i]? with | some (some d) => .ok d h | _ => .bad
def eK (d : D) : EF := fun _ h => .ok d h
section
variable {X : Cx}
theorem se_var (i : Nat) {x : Str} {pos : Pos} (hN : X.N[i]? = some x := by rfl) (hv : Vis X.env.scope x := by first | exact Or.inl rfl | exact Or.inr (Or.inl rfl) | exact Or.inr (Or.inr rfl)) (hd : (x == ("__debug__" : Str)) = false := by decide +kernel)
    (hcd : (x == ("__classdict__" : Str)) = false := by decide +kernel) : SE X (.Name x pos) (eVar i) := ⟨PE.of (pe_var hN hv hd hcd) fun σ H Q q => by
  obtain ⟨ρ, σa, h, v, h', rh, rs, e, k⟩ := q
  unfold eVar at e
  split at e
  · rename_i d q
    cases e
    obtain ⟨y, h1, h2⟩ := rs.at_ i _ q
    exact ⟨y, h1, k ρ y H Ext.refl rh h2⟩
  · cases e⟩
theorem se_int {i : Int} {j : Nat} {pos : Pos} : SE X (.Constant (.int i) j pos) (eK (.int i)) := ⟨PE.of pe_int fun σ H Q q => by
  obtain ⟨ρ, σa, h, v, h', rh, rs, e, k⟩ := q
  cases e
  exact k ρ _ H Ext.refl rh (.int i)⟩
theorem se_bl {i : Bool} {j : Nat} {pos : Pos} : SE X (.Constant (.bool i) j pos) (eK (.bl i)) := ⟨PE.of pe_bl fun σ H Q q => by
  obtain ⟨ρ, σa, h, v, h', rh, rs, e, k⟩ := q
  cases e
  exact k ρ _ H Ext.refl rh (.bl i)⟩
theorem se_str {i : Str} {j : Nat} {pos : Pos} : SE X (.Constant (.str i) j pos) (eK (.str i)) := ⟨PE.of pe_str fun σ H Q q => by
  obtain ⟨ρ, σa, h, v, h', rh, rs, e, k⟩ := q
  cases e
  exact k ρ _ H Ext.refl rh (.str i)⟩
theorem se_non {j : Nat} {pos : Pos} : SE X (.Constant .none j pos) (eK .non) := ⟨PE.of pe_non fun σ H Q q => by
  obtain ⟨ρ, σa, h, v, h', rh, rs, e, k⟩ := q
  cases e
  exact k ρ _ H Ext.refl rh .non⟩
def GlD (K : PySem.W.Frag) (d : D) (u : Value) : Prop := ∃ y, RelV y u ∧ ∀ ρ H, RV K ρ H d y
theorem se_glob {x : Str} {d : D} {u : Value} {pos : Pos} (hg : Gl X x) (hm : X.mg x = some u) (r : GlD X.K d u) (hd : (x == ("__debug__" : Str)) = false := by decide +kernel) : SE X (.Name x pos) (eK d) := by
  obtain ⟨y, r1, r2⟩ := r
  exact ⟨PE.of (pe_glob hg hm r1 hd) fun σ H Q q => by
    obtain ⟨ρ, σa, h, v, h', rh, rs, e, k⟩ := q
    cases e
    exact k ρ _ H Ext.refl rh (r2 ρ H)⟩
theorem se_globE {x : Str} {d : D} {pos : Pos} (hg : Gl X x) (h : ∃ u, X.mg x = some u ∧ GlD X.K d u) (hd : (x == ("__debug__" : Str)) = false := by decide +kernel) : SE X (.Name x pos) (eK d) := by
  obtain ⟨u, h1, h2⟩ := h
  exact se_glob hg h1 h2 hd
abbrev Op2 := D → D → AH → R D
def OpS (K : PySem.W.Frag) (o : Op2) (r : R2) : Prop := ∀ (ρ : List Addr) (h : AH) (H : Hp) (x y : D) (x' y' : V) (v : D) (h' : AH) (Q : VK), RH K ρ h H → RV K ρ H x x' → RV K ρ H y y' → o x y h = .ok v h' →
  (∀ ρ' z H', Ext K ρ H ρ' H' → RH K ρ' h' H' → RV K ρ' H' v z → Q z H') → r x' y' H Q
def eBin (o : Op2) (f g : EF) : EF := fun σ h => (f σ h).bind fun x h1 => (g σ h1).bind fun y h2 => o x y h2
theorem bin_in {K : PySem.W.Frag} {o : Op2} {r : R2} {f g : EF} (hs : OpS K o r) : ∀ σ H Q, tE K (eBin o f g) σ H Q → tOp r (tE K f) (tE K g) σ H Q := fun σ H Q q => by
  obtain ⟨ρ, σa, h, v, h', rh, rs, e, k⟩ := q
  obtain ⟨x, h1, e1, e⟩ := bind_eq e
  obtain ⟨y, h2, e2, e⟩ := bind_eq e
  exact ⟨ρ, σa, h, x, h1, rh, rs, e1, fun ρ1 x' H1 p1 rh1 rx => ⟨ρ1, σa, h1, y, h2, rh1, rs.up p1, e2, fun ρ2 y' H2 p2 rh2 ry =>
    hs ρ2 h2 H2 x y x' y' v h' Q rh2 (rx.up p2) ry e fun ρ3 z H3 p3 rh3 rz => k ρ3 z H3 (p1.trans (p2.trans p3)) rh3 rz⟩⟩
theorem se_bin {op : Operator} {o : Op2} {r : R2} {a b : Expr} {f g : EF} {pos : Pos} (ho : OpR X (binaryOp op) r) (hs : OpS X.K o r) (ha : SE X a f) (hb : SE X b g) : SE X (.BinOp a op b pos) (eBin o f g) :=
  ⟨PE.of (pe_op ho ha.out hb.out) (bin_in hs)⟩
theorem OpS.or {K : PySem.W.Frag} {o p q : Op2} {r r' : R2} (h : OpS K p r) (h' : OpS K q r') (hd : ∀ x y k v k', o x y k = .ok v k' → p x y k = .ok v k' ∨ q x y k = .ok v k') : OpS K o (fun x y H Q => r x y H Q ∨ r' x y H Q) :=
  fun ρ k H x y x' y' v k' Q rh rx ry e c => by
    rcases hd x y k v k' e with e | e
    · exact .inl (h ρ k H x y x' y' v k' Q rh rx ry e c)
    · exact .inr (h' ρ k H x y x' y' v k' Q rh rx ry e c)
def oI (C : Int → Int → Prop) [∀ i j, Decidable (C i j)] (g : Int → Int → D) : Op2 := fun x y h => match x, y with
  | .int i, .int j => if C i j then .ok (g i j) h else .bad
  | _, _ => .bad
theorem ops_I {K : PySem.W.Frag} {C C' : Int → Int → Prop} [∀ i j, Decidable (C i j)] {g : Int → Int → D} {gv : Int → Int → V} (hC : ∀ i j, C i j → C' i j) (hg : ∀ ρ H i j, RV K ρ H (g i j) (gv i j)) : OpS K (oI C g) (rI C' gv) := by
  intro ρ h H x y x' y' v h' Q rh rx ry e k
  unfold oI at e
  split at e
  · rename_i i j
    split at e
    · rename_i c
      cases e
      cases rx
      cases ry
      exact ⟨i, j, rfl, rfl, hC _ _ c, k ρ _ H Ext.refl rh (hg ρ H i j)⟩
    · cases e
  · cases e
def oI0 (g : Int → Int → D) : Op2 := fun x y h => match x, y with
  | .int i, .int j => .ok (g i j) h
  | _, _ => .bad
theorem ops_I0 {K : PySem.W.Frag} {g : Int → Int → D} {gv : Int → Int → V} (hg : ∀ ρ H i j, RV K ρ H (g i j) (gv i j)) : OpS K (oI0 g) (rI0 gv) := by
  intro ρ h H x y x' y' v h' Q rh rx ry e k
  unfold oI0 at e
  split at e
  · rename_i i j
    cases e
    cases rx
    cases ry
    exact ⟨i, j, rfl, rfl, k ρ _ H Ext.refl rh (hg ρ H i j)⟩
  · cases e
def oAdd : Op2 := oI0 fun i j => .int (i + j)
def oSub : Op2 := oI0 fun i j => .int (i - j)
theorem se_sub {a b : Expr} {f g : EF} {pos : Pos} (ha : SE X a f) (hb : SE X b g) : SE X (.BinOp a .Sub b pos) (eBin oSub f g) := se_bin op_sub (ops_I0 fun _ _ _ _ => .int _) ha hb
def Few (i : Int) : Prop := Builtin.Int.intBits i ≤ 2 ^ 20
instance : DecidablePred Few := fun i => inferInstanceAs (Decidable (_ ≤ _))
def CMulF (i j : Int) : Prop := CMul i j ∨ (Few i ∧ Few j)
instance (i j : Int) : Decidable (CMulF i j) := inferInstanceAs (Decidable (((_ ∧ _) ∨ (_ ∧ _)) ∨ (_ ∧ _)))
theorem op_mulF : OpR X (binaryOp .Mult) (rI CMulF fun i j => .int (i * j)) := opI fun _ _ _ _ _ _ _ hc q => by
  rcases hc with hc | hc
  · exact mul_int q hc.ok
  · exact mul_int q (IntMulOk.of_bits hc.1 hc.2)
def oMul : Op2 := oI CMulF fun i j => .int (i * j)
def CDivF (_ j : Int) : Prop := j ≠ 0 ∧ j.natAbs.log2 < 9000
instance (i j : Int) : Decidable (CDivF i j) := inferInstanceAs (Decidable (_ ∧ _))
theorem op_fdivF : OpR X (binaryOp .FloorDiv) (rI CDivF fun i j => .int (i.fdiv j)) := opI fun _ _ _ _ _ _ _ hc q => floordiv_int hc.1 q (.inl (PyProof.noPylong_of_log2 hc.2))
def oFdiv : Op2 := oI CDivF fun i j => .int (i.fdiv j)
theorem se_fdiv {a b : Expr} {f g : EF} {pos : Pos} (ha : SE X a f) (hb : SE X b g) : SE X (.BinOp a .FloorDiv b pos) (eBin oFdiv f g) := se_bin op_fdivF (ops_I (fun _ _ c => c) fun _ _ _ _ => .int _) ha hb
def oMod : Op2 := oI (fun _ j => j ≠ 0) fun i j => .int (i.fmod j)
theorem se_mod {a b : Expr} {f g : EF} {pos : Pos} (ha : SE X a f) (hb : SE X b g) : SE X (.BinOp a .Mod b pos) (eBin oMod f g) := se_bin op_modN (ops_I (fun _ _ c => c) fun _ _ _ _ => .int _) ha hb
instance (i j : Int) : Decidable (CPow i j) := inferInstanceAs (Decidable (_ ∧ _ ∧ _))
def oPow : Op2 := oI CPow fun i j => .int (i ^ j.toNat)
theorem se_pow {a b : Expr} {f g : EF} {pos : Pos} (ha : SE X a f) (hb : SE X b g) : SE X (.BinOp a .Pow b pos) (eBin oPow f g) := se_bin op_pow (ops_I (fun _ _ c => c) fun _ _ _ _ => .int _) ha hb
def eNeg (f : EF) : EF := fun σ h => (f σ h).bind fun x h1 => match x with | .int i => .ok (.int (-i)) h1 | _ => .bad
theorem se_neg {a : Expr} {f : EF} {pos : Pos} (ha : SE X a f) : SE X (.UnaryOp .USub a pos) (eNeg f) := ⟨PE.of (pe_un un_neg ha.out) fun σ H Q q => by
  obtain ⟨ρ, σa, h, v, h', rh, rs, e, k⟩ := q
  obtain ⟨x, h1, e1, e⟩ := bind_eq e
  refine ⟨ρ, σa, h, x, h1, rh, rs, e1, fun ρ1 x' H1 p1 rh1 rx => ?_⟩
  split at e
  · cases e
    cases rx
    exact ⟨_, rfl, k ρ1 _ H1 p1 rh1 (.int _)⟩
  · cases e⟩
theorem se_cmp {op : CmpOp} {o : Op2} {r : R2} {a b : Expr} {f g : EF} {pos : Pos} (ho : OpR X (compareOp op) r) (hs : OpS X.K o r) (ha : SE X a f) (hb : SE X b g) (hm : behindInMarks op b = false) : SE X (.Compare a [op] [b] pos) (eBin o f g) :=
  ⟨PE.of (pe_cmpR ho ha.out hb.out hm) (bin_in hs)⟩
def tB (f : EF) : TF := fun σ h => (f σ h).bind fun x h1 => match x with | .bl b => .ok b h1 | _ => .bad
theorem tb_in {K : PySem.W.Frag} {f : EF} : ∀ σ H Q, tT K (tB f) σ H Q → tTest (tE K f) σ H Q := fun σ H Q q => by
  obtain ⟨ρ, σa, h, v, h', rh, rs, e, k⟩ := q
  obtain ⟨x, h1, e1, e⟩ := bind_eq e
  refine ⟨ρ, σa, h, x, h1, rh, rs, e1, fun ρ1 x' H1 p1 rh1 rx => ?_⟩
  split at e
  · cases e
    cases rx
    exact ⟨_, rfl, k ρ1 H1 p1 rh1⟩
  · cases e
theorem tTest_mono {t t' : TE} (hm : ∀ σ H Q, t' σ H Q → t σ H Q) : ∀ σ H Q, tTest t' σ H Q → tTest t σ H Q := fun σ H Q q => hm σ H _ q
theorem st_cmp {op : CmpOp} {o : Op2} {r : R2} {a b : Expr} {f g : EF} {pos : Pos} (ho : OpR X (compareOp op) r) (hs : OpS X.K o r) (ha : SE X a f) (hb : SE X b g) (hm : behindInMarks op b = false) : ST X (.Compare a [op] [b] pos) (tB (eBin o f g)) :=
  ⟨PT.of (pt_cmpR ho ha.out hb.out hm) fun σ H Q q => tTest_mono (bin_in hs) σ H Q (tb_in σ H Q q)⟩
def oLt : Op2 := oI0 fun i j => .bl (decide (i < j))
def oLe : Op2 := oI0 fun i j => .bl (decide (i ≤ j))
def oGt : Op2 := oI0 fun i j => .bl (decide (j < i))
def oGe : Op2 := oI0 fun i j => .bl (decide (j ≤ i))
theorem sp_lt {K : PySem.W.Frag} : OpS K oLt (rI0 fun i j => .bl (decide (i < j))) := ops_I0 fun _ _ _ _ => .bl _
theorem sp_le {K : PySem.W.Frag} : OpS K oLe (rI0 fun i j => .bl (decide (i ≤ j))) := ops_I0 fun _ _ _ _ => .bl _
theorem sp_gt {K : PySem.W.Frag} : OpS K oGt (rI0 fun i j => .bl (decide (j < i))) := ops_I0 fun _ _ _ _ => .bl _
theorem sp_ge {K : PySem.W.Frag} : OpS K oGe (rI0 fun i j => .bl (decide (j ≤ i))) := ops_I0 fun _ _ _ _ => .bl _
def oIsN : Op2 := fun x y h => match y with
  | .non => .ok (.bl (match x with | .non => true | _ => false)) h
  | _ => .bad
def oNotN : Op2 := fun x y h => match y with
  | .non => .ok (.bl (match x with | .non => false | _ => true)) h
  | _ => .bad
theorem st_val {e : Expr} {f : EF} (h : SE X e f) (he : ∀ whole, isTrue e X.env whole = (do let v ← whole; standAt e.pos; holding [v] (truthy v)) := by intro _; rfl) : ST X e (tB f) :=
  ⟨PT.of (pt_val h.out he) fun σ H Q q => tb_in σ H Q q⟩
def tAnd2 (f g : TF) : TF := fun σ h => (f σ h).bind fun b h1 => if b = true then g σ h1 else .ok false h1
def tOr2 (f g : TF) : TF := fun σ h => (f σ h).bind fun b h1 => if b = true then .ok true h1 else g σ h1
def tNot1 (f : TF) : TF := fun σ h => (f σ h).bind fun b h1 => .ok (!b) h1
theorem sw_and1 {a : Expr} {f : TF} {pos : Pos} (h : ST X a f) : SW X (.BoolOp .And [a] pos) f := ⟨pw_and1 h.out⟩
theorem sw_or1 {a : Expr} {f : TF} {pos : Pos} (h : ST X a f) : SW X (.BoolOp .Or [a] pos) f := ⟨pw_or1 h.out⟩
theorem sw_and {a b : Expr} {rest : List Expr} {f g : TF} {pos : Pos} (ha : ST X a f) (hb : SW X (.BoolOp .And (b :: rest) pos) g) : SW X (.BoolOp .And (a :: b :: rest) pos) (tAnd2 f g) :=
  ⟨PW.of (pw_and ha.out hb.out) fun σ H Q q => by
    obtain ⟨ρ, σa, h, v, h', rh, rs, e, k⟩ := q
    obtain ⟨x, h1, e1, e⟩ := bind_eq e
    refine ⟨ρ, σa, h, x, h1, rh, rs, e1, fun ρ1 H1 p1 rh1 => ?_⟩
    cases x with
    | true => exact ⟨ρ1, σa, h1, v, h', rh1, rs.up p1, e, fun ρ2 H2 p2 rh2 => k ρ2 H2 (p1.trans p2) rh2⟩
    | false => cases e; exact k ρ1 H1 p1 rh1⟩
theorem sw_or {a b : Expr} {rest : List Expr} {f g : TF} {pos : Pos} (ha : ST X a f) (hb : SW X (.BoolOp .Or (b :: rest) pos) g) : SW X (.BoolOp .Or (a :: b :: rest) pos) (tOr2 f g) :=
  ⟨PW.of (pw_or ha.out hb.out) fun σ H Q q => by
    obtain ⟨ρ, σa, h, v, h', rh, rs, e, k⟩ := q
    obtain ⟨x, h1, e1, e⟩ := bind_eq e
    refine ⟨ρ, σa, h, x, h1, rh, rs, e1, fun ρ1 H1 p1 rh1 => ?_⟩
    cases x with
    | true => cases e; exact k ρ1 H1 p1 rh1
    | false => exact ⟨ρ1, σa, h1, v, h', rh1, rs.up p1, e, fun ρ2 H2 p2 rh2 => k ρ2 H2 (p1.trans p2) rh2⟩⟩
theorem st_w {e : Expr} {f : TF} (h : SW X e f) : ST X e f := ⟨h.out.pt⟩
theorem st_not {a : Expr} {f : TF} {pos : Pos} (h : ST X a f) : ST X (.UnaryOp .Not a pos) (tNot1 f) := ⟨PT.of (pt_not h.out) fun σ H Q q => by
    obtain ⟨ρ, σa, h, v, h', rh, rs, e, k⟩ := q
    obtain ⟨x, h1, e1, e⟩ := bind_eq e
    cases e
    exact ⟨ρ, σa, h, x, h', rh, rs, e1, fun ρ1 H1 p1 rh1 => k ρ1 H1 p1 rh1⟩⟩
def eAnd2 (f g : EF) : EF := fun σ h => (f σ h).bind fun x h1 => match x with | .bl true => g σ h1 | .bl false => .ok (.bl false) h1 | _ => .bad
def eNot1 (f : EF) : EF := fun σ h => (f σ h).bind fun x h1 => match x with | .bl b => .ok (.bl (!b)) h1 | _ => .bad
theorem se_one {op : BoolOp} {a : Expr} {f : EF} {pos : Pos} (h : SE X a f) : SE X (.BoolOp op [a] pos) f := ⟨pe_one h.out⟩
theorem se_and {a b : Expr} {rest : List Expr} {f g : EF} {pos : Pos} (ha : SE X a f) (hb : SE X (.BoolOp .And (b :: rest) pos) g) : SE X (.BoolOp .And (a :: b :: rest) pos) (eAnd2 f g) :=
  ⟨PE.of (pe_and ha.out hb.out) fun σ H Q q => by
    obtain ⟨ρ, σa, h, v, h', rh, rs, e, k⟩ := q
    obtain ⟨x, h1, e1, e⟩ := bind_eq e
    refine ⟨ρ, σa, h, x, h1, rh, rs, e1, fun ρ1 x' H1 p1 rh1 rx => ?_⟩
    split at e
    · cases rx
      exact ⟨true, rfl, ρ1, σa, h1, v, h', rh1, rs.up p1, e, fun ρ2 y H2 p2 rh2 ry => k ρ2 y H2 (p1.trans p2) rh2 ry⟩
    · cases rx
      cases e
      exact ⟨false, rfl, k ρ1 _ H1 p1 rh1 (.bl false)⟩
    · cases e⟩
theorem se_not {a : Expr} {f : EF} {pos : Pos} (h : SE X a f) : SE X (.UnaryOp .Not a pos) (eNot1 f) := ⟨PE.of (pe_not h.out) fun σ H Q q => by
    obtain ⟨ρ, σa, h, v, h', rh, rs, e, k⟩ := q
    obtain ⟨x, h1, e1, e⟩ := bind_eq e
    refine ⟨ρ, σa, h, x, h1, rh, rs, e1, fun ρ1 x' H1 p1 rh1 rx => ?_⟩
    split at e
    · cases rx
      cases e
      exact ⟨_, rfl, k ρ1 _ H1 p1 rh1 (.bl _)⟩
    · cases e⟩
def eChain (o o' : Op2) (f g k : EF) : EF := fun σ h => (f σ h).bind fun x h1 => (g σ h1).bind fun y h2 => (o x y h2).bind fun z h3 => match z with
  | .bl true => (k σ h3).bind fun w h4 => o' y w h4
  | .bl false => .ok (.bl false) h3
  | _ => .bad
theorem chain_in {K : PySem.W.Frag} {o o' : Op2} {r r' : R2} {f g c : EF} (hs : OpS K o r) (hs' : OpS K o' r') : ∀ σ H Q, tE K (eChain o o' f g c) σ H Q → tChain r r' (tE K f) (tE K g) (tE K c) σ H Q := fun σ H Q q => by
  obtain ⟨ρ, σa, h, v, h', rh, rs, e, k⟩ := q
  obtain ⟨x, h1, e1, e⟩ := bind_eq e
  obtain ⟨y, h2, e2, e⟩ := bind_eq e
  obtain ⟨z, h3, e3, e⟩ := bind_eq e
  refine ⟨ρ, σa, h, x, h1, rh, rs, e1, fun ρ1 x' H1 p1 rh1 rx => ⟨ρ1, σa, h1, y, h2, rh1, rs.up p1, e2, fun ρ2 y' H2 p2 rh2 ry => ?_⟩⟩
  refine hs ρ2 h2 H2 x y x' y' z h3 _ rh2 (rx.up p2) ry e3 fun ρ3 z' H3 p3 rh3 rz => ?_
  split at e
  · cases rz
    obtain ⟨w, h4, e4, e⟩ := bind_eq e
    refine ⟨true, rfl, ?_⟩
    rw [if_pos rfl]
    exact ⟨ρ3, σa, h3, w, h4, rh3, rs.up (p1.trans (p2.trans p3)), e4, fun ρ4 w' H4 p4 rh4 rw' =>
      hs' ρ4 h4 H4 y w y' w' v h' Q rh4 (ry.up (p3.trans p4)) rw' e fun ρ5 u H5 p5 rh5 ru => k ρ5 u H5 (p1.trans (p2.trans (p3.trans (p4.trans p5)))) rh5 ru⟩
  · cases rz
    cases e
    refine ⟨false, rfl, ?_⟩
    rw [if_neg Bool.false_ne_true]
    exact k ρ3 _ H3 (p1.trans (p2.trans p3)) rh3 (.bl false)
  · cases e
theorem se_chain {op op' : CmpOp} {o o' : Op2} {r r' : R2} {a b c : Expr} {f g k : EF} {pos : Pos} (ho : OpR X (compareOp op) r) (hs : OpS X.K o r) (ho' : OpR X (compareOp op') r') (hs' : OpS X.K o' r') (ha : SE X a f) (hb : SE X b g) (hc : SE X c k) (hm : lastMarks [op, op'] [b, c] = false := by with_unfolding_all rfl) : SE X (.Compare a [op, op'] [b, c] pos) (eChain o o' f g k) :=
  ⟨PE.of (pe_chain ho ho' ha.out hb.out hc.out hm) (chain_in hs hs')⟩
end
end EV
set_option Elab.async false
set_option linter.all false
set_option autoImplicit false
set_option maxRecDepth 100000
namespace EV
open PySem PySem.Spec PyProof.Rows L2
def aNil : AF := fun _ h => .ok [] h
def aCons (f : EF) (g : AF) : AF := fun σ h => (f σ h).bind fun x h1 => (g σ h1).bind fun xs h2 => .ok (x :: xs) h2
section
variable {X : Cx}
theorem sa_nil : SA X [] aNil := ⟨PA.of pa_nil fun σ H Q q => by
  obtain ⟨ρ, σa, h, v, h', rh, rs, e, k⟩ := q
  cases e
  exact k ρ _ H Ext.refl rh .nil⟩
theorem sa_cons {e : Expr} {es : List Expr} {f : EF} {g : AF} (ha : SE X e f) (hr : SA X es g) (hs : starEach (e :: es) X.env = (false, eval e X.env) :: starEach es X.env := by rfl) : SA X (e :: es) (aCons f g) := ⟨PA.of (pa_cons ha.out hr.out hs) fun σ H Q q => by
  obtain ⟨ρ, σa, h, v, h', rh, rs, e, k⟩ := q
  obtain ⟨x, h1, e1, e⟩ := bind_eq e
  obtain ⟨xs, h2, e2, e⟩ := bind_eq e
  cases e
  exact ⟨ρ, σa, h, x, h1, rh, rs, e1, fun ρ1 x' H1 p1 rh1 rx => ⟨ρ1, σa, h1, xs, h', rh1, rs.up p1, e2, fun ρ2 ys H2 p2 rh2 ry => k ρ2 _ H2 (p1.trans p2) rh2 (.cons (rx.up p2) ry)⟩⟩⟩
theorem RV.newTup {K : PySem.W.Frag} {ρ : List Addr} {H : Hp} {xs : List D} {ys : List V} {p : Addr} (r : RVs K ρ H xs ys) (hp : H p = none) : RV K ρ (upd H p (.tup ys)) (.tup xs) (.ref p) :=
  .tup (SqT.of upd_same) (r.up (Ext.upd (.inl hp)))
theorem ref_new {K : PySem.W.Frag} {ρ : List Addr} {H : Hp} {h : AH} {p : Addr} (rh : RH K ρ h H) (H' : Hp) : RV K (ρ ++ [p]) H' (.ref h.length) (.ref p) :=
  .ref (by rw [← rh.len, List.getElem?_append_right (Nat.le_refl _)]; simp)
def newL (xs : List D) (h : AH) : R D := .ok (.ref h.length) (h ++ [.lst xs])
theorem newL_ok {K : PySem.W.Frag} {ρ : List Addr} {H : Hp} {h : AH} {p : Addr} {xs : List D} {ys : List V} (rh : RH K ρ h H) (r : RVs K ρ H xs ys) (hp : H p = none) :
    Ext K ρ H (ρ ++ [p]) (upd H p (.lst ys)) ∧ RH K (ρ ++ [p]) (h ++ [.lst xs]) (upd H p (.lst ys)) ∧ RV K (ρ ++ [p]) (upd H p (.lst ys)) (.ref h.length) (.ref p) :=
  ⟨Ext.new hp, rh.new hp ⟨ys, upd_same, r.up (Ext.new hp)⟩, ref_new rh _⟩
def eTup (f : AF) : EF := fun σ h => (f σ h).bind fun xs h1 => if xs.length ≤ sizeLine then .ok (.tup xs) h1 else .bad
def eLst (f : AF) : EF := fun σ h => (f σ h).bind fun xs h1 => if xs.length ≤ sizeLine then newL xs h1 else .bad
theorem se_tup {es : List Expr} {f : AF} {k : Nat} {pos : Pos} (ha : SA X es f) : SE X (.Tuple es k pos) (eTup f) := ⟨PE.of (pe_tup ha.out) fun σ H Q q => by
  obtain ⟨ρ, σa, h, v, h', rh, rs, e, k⟩ := q
  obtain ⟨xs, h1, e1, e⟩ := bind_eq e
  split at e
  · rename_i hl
    cases e
    exact ⟨ρ, σa, h, xs, h', rh, rs, e1, fun ρ1 ys H1 p1 rh1 ry => ⟨by rw [← ry.length]; exact hl, fun p hp => k ρ1 _ _ (p1.trans (Ext.upd (.inl hp))) (rh1.laid hp) (.newTup ry hp)⟩⟩
  · cases e⟩
theorem se_lst {es : List Expr} {f : AF} {pos : Pos} (ha : SA X es f) : SE X (.List es pos) (eLst f) := ⟨PE.of (pe_lst ha.out) fun σ H Q q => by
  obtain ⟨ρ, σa, h, v, h', rh, rs, e, k⟩ := q
  obtain ⟨xs, h1, e1, e⟩ := bind_eq e
  split at e
  · rename_i hl
    cases e
    refine ⟨ρ, σa, h, xs, h1, rh, rs, e1, fun ρ1 ys H1 p1 rh1 ry => ⟨by rw [← ry.length]; exact hl, fun p hp => ?_⟩⟩
    obtain ⟨a, b, c⟩ := newL_ok rh1 ry hp
    exact k _ _ _ (p1.trans a) b c
  · cases e⟩
def dKey : D → Option Key
  | .int i => some (.inl i)
  | .str x => some (.inr x)
  | _ => none
theorem dKey_rel {K : PySem.W.Frag} {ρ : List Addr} {H : Hp} {d : D} {k : Key} {y : V} (e : dKey d = some k) (r : RV K ρ H d y) : y = kV k := by
  cases r <;> simp [dKey] at e <;> subst e <;> rfl
def seqAt (xs : List D) (y : D) (h : AH) : R D := match y with
  | .int i => match atI xs i with | some v => .ok v h | none => .bad
  | _ => .bad
def oIx : Op2 := fun x y h => match x with
  | .tup xs => seqAt xs y h
  | .fz xs => seqAt xs y h
  | .ref n => match h[n]? with
    | some (.lst xs) => seqAt xs y h
    | some (.dct kvs) => match dKey y with
      | some k => match dget kvs k with | some v => .ok v h | none => .bad
      | none => .bad
    | _ => .bad
  | _ => .bad
theorem atI_rel {K : PySem.W.Frag} {ρ : List Addr} {H : Hp} {xs : List D} {ys : List V} {i : Int} {v : D} (r : RVs K ρ H xs ys) (e : atI xs i = some v) : ∃ y, atI ys i = some y ∧ RV K ρ H v y := by
  unfold atI at e ⊢
  rw [r.length] at e
  cases q : ixN ys.length i with
  | none => rw [q] at e; cases e
  | some j =>
    rw [q] at e
    exact r.get (show xs[j]? = some v from e)
theorem ix_dict (hu : X.A.units + 1 < cLine) : IxR X (fun x y H Q => ∃ a v, x = .ref a ∧ DGet H a y (some v) ∧ Q v H) := by
  intro value slice pins s σ H x y v u Q I rx ry h hs
  obtain ⟨a, w, rfl, g, q⟩ := h
  cases rx
  exact tail_any (dict_typeIs I g) PySem.F.slot_dict_getitem.lookup (d_getItem hu I g ry fun w' s3 I3 rw' => ⟨w, H, I3, rw', q⟩) hs
def rIxA (K : PySem.W.Frag) : R2 := fun x y H Q => (rIxL K x y H Q ∨ rIxT K x y H Q) ∨ (∃ a v, x = .ref a ∧ DGet H a y (some v) ∧ Q v H)
theorem IxR.or {r r' : R2} (h : IxR X r) (h' : IxR X r') : IxR X (fun x y H Q => r x y H Q ∨ r' x y H Q) := by
  intro value slice pins s σ H x y v u Q I rx ry q hs
  rcases q with q | q
  · exact h value slice pins s σ H x y v u Q I rx ry q hs
  · exact h' value slice pins s σ H x y v u Q I rx ry q hs
theorem ix_any (hu : X.A.units + 1 < cLine) : IxR X (rIxA X.K) := IxR.or (IxR.or ix_list ix_tup) (ix_dict hu)
theorem seqAt_ok {xs : List D} {y : D} {h h' : AH} {v : D} (e : seqAt xs y h = .ok v h') : ∃ i, y = .int i ∧ atI xs i = some v ∧ h = h' := by
  unfold seqAt at e
  split at e
  · rename_i i
    split at e
    · rename_i w q
      cases e
      exact ⟨i, rfl, q, rfl⟩
    · cases e
  · cases e
theorem sp_ix {K : PySem.W.Frag} : OpS K oIx (rIxA K) := by
  intro ρ h H x y x' y' v h' Q rh rx ry e k
  unfold oIx at e
  split at e
  · obtain ⟨i, rfl, q, rfl⟩ := seqAt_ok e
    cases ry
    cases rx with
    | tup hs r =>
      obtain ⟨z, e2, rz⟩ := atI_rel r q
      exact .inl (.inr ⟨_, _, i, z, rfl, rfl, hs, e2, k ρ z H Ext.refl rh rz⟩)
  · obtain ⟨i, rfl, q, rfl⟩ := seqAt_ok e
    cases ry
    cases rx with
    | fz hs r =>
      obtain ⟨z, e2, rz⟩ := atI_rel r q
      exact .inl (.inl ⟨_, _, i, z, rfl, rfl, hs.sq, e2, k ρ z H Ext.refl rh rz⟩)
  · rename_i n
    cases rx with
    | @ref _ a hr =>
      split at e
      · rename_i xs q0
        obtain ⟨ys, hy, r⟩ := rh.ob n _ a q0 hr
        obtain ⟨i, rfl, q, rfl⟩ := seqAt_ok e
        cases ry
        obtain ⟨z, e2, rz⟩ := atI_rel r q
        exact .inl (.inl ⟨_, _, i, z, rfl, rfl, SqL.of hy, e2, k ρ z H Ext.refl rh rz⟩)
      · rename_i kvs q0
        obtain ⟨ys, hy, r⟩ := rh.ob n _ a q0 hr
        split at e
        · rename_i key ek
          split at e
          · rename_i w ew
            cases e
            have := dKey_rel ek ry
            subst this
            rcases r.get (k := key) with ⟨z1, z2⟩ | ⟨z, z', z1, z2, z3⟩
            · rw [ew] at z1; cases z1
            · rw [ew] at z1; cases z1
              refine .inr ⟨a, z', rfl, ?_, k ρ _ H Ext.refl rh z3⟩
              rw [← z2]
              exact DGet.k hy
          · cases e
        · cases e
      · cases e
  · cases e
theorem se_ix {a b : Expr} {f g : EF} {pos : Pos} (hu : X.A.units + 1 < cLine) (ha : SE X a f) (hb : SE X b g) (hs : PlainIx b := by exact fun _ _ => rfl) : SE X (.Subscript a b pos) (eBin oIx f g) :=
  ⟨PE.of (pe_ix (ix_any hu) ha.out hb.out hs) (bin_in sp_ix)⟩
abbrev OF := Fr → AH → R (Option Int)
def tO (K : PySem.W.Frag) (f : OF) : TO := fun σ H Q => ∃ ρ σa h o h', RH K ρ h H ∧ RS K ρ H σa σ ∧ f σa h = .ok o h' ∧ ∀ ρ' H', Ext K ρ H ρ' H' → RH K ρ' h' H' → Q o H'
structure SO (X : Cx) (e : Option Expr) (f : OF) : Prop where
  out : PO X e (tO X.K f)
def oNone : OF := fun _ h => .ok none h
def oSome (f : EF) : OF := fun σ h => (f σ h).bind fun x h1 => match x with | .int i => .ok (some i) h1 | _ => .bad
theorem so_none : SO X none oNone := ⟨fun pins s σ H Q I q => po_none pins s σ H Q I (by
  obtain ⟨ρ, σa, h, v, h', rh, rs, e, k⟩ := q
  cases e
  exact k ρ H Ext.refl rh)⟩
theorem so_some {e : Expr} {f : EF} (ha : SE X e f) : SO X (some e) (oSome f) := ⟨fun pins s σ H Q I q => po_some ha.out pins s σ H Q I (by
  obtain ⟨ρ, σa, h, v, h', rh, rs, e, k⟩ := q
  obtain ⟨x, h1, e1, e⟩ := bind_eq e
  refine ⟨ρ, σa, h, x, h1, rh, rs, e1, fun ρ1 x' H1 p1 rh1 rx => ?_⟩
  split at e
  · cases e
    cases rx
    exact ⟨_, rfl, k ρ1 H1 p1 rh1⟩
  · cases e)⟩
def cutD (xs : List D) (lo hi : Option Int) : List D := (xs.drop (HT.sIx xs.length 0 lo)).take (HT.sIx xs.length xs.length hi - HT.sIx xs.length 0 lo)
theorem cutD_rel {K : PySem.W.Frag} {ρ : List Addr} {H : Hp} {xs : List D} {ys : List V} (r : RVs K ρ H xs ys) (lo hi : Option Int) : RVs K ρ H (cutD xs lo hi) (cutV ys lo hi) := by
  unfold cutD cutV
  rw [r.length]
  exact (r.drop _).take _
def slD (x : D) (lo hi : Option Int) (h : AH) : R D := match x with
  | .fz xs => newL (cutD xs lo hi) h
  | .tup xs => if HT.sIx xs.length 0 lo = 0 ∧ HT.sIx xs.length xs.length hi = xs.length then .bad else .ok (.tup (cutD xs lo hi)) h
  | .ref n => match h[n]? with | some (.lst xs) => newL (cutD xs lo hi) h | _ => .bad
  | _ => .bad
def sNext : SF := fun σ h => .ok (.next σ) h
def sSeq (f g : SF) : SF := fun σ h => (f σ h).bind fun fl h1 => match fl with | .next σ1 => g σ1 h1 | fl => .ok fl h1
theorem ss_nil : SSs X [] sNext := ⟨PSs.of pss_nil fun D σ H q => by
  obtain ⟨ρ, σa, h, v, h', rh, rs, e, k⟩ := q
  cases e
  exact k ρ H Ext.refl rh σ rs⟩
theorem ss_cons {st : Stmt} {rest : List Stmt} {f g : SF} (h1 : SS X st f) (h2 : SSs X rest g) : SSs X (st :: rest) (sSeq f g) := ⟨PSs.of (pss_cons h1.out h2.out) fun D σ H q => by
  obtain ⟨ρ, σa, h, v, h', rh, rs, e, k⟩ := q
  obtain ⟨fl, h1, e1, e⟩ := bind_eq e
  refine ⟨ρ, σa, h, fl, h1, rh, rs, e1, fun ρ1 H1 p1 rh1 => ?_⟩
  cases fl with
  | next σ1 => exact fun σ' rs' => ⟨ρ1, σ1, h1, v, h', rh1, rs', e, fun ρ2 H2 p2 rh2 => k ρ2 H2 (p1.trans p2) rh2⟩
  | brk σ1 => cases e; exact k ρ1 H1 p1 rh1
  | cont σ1 => cases e; exact k ρ1 H1 p1 rh1
  | ret v => cases e; exact k ρ1 H1 p1 rh1⟩
theorem ss_one {st : Stmt} {f : SF} (h1 : SS X st f) : SSs X [st] f := ⟨pss_one h1.out⟩
def sBad : SF := fun _ _ => .bad
theorem ss_never {st : Stmt} : SS X st sBad := ⟨PS.of ps_never fun D σ H q => by
  obtain ⟨ρ, σa, h, v, h', rh, rs, e, k⟩ := q
  cases e⟩
def sExpr (f : EF) : SF := fun σ h => (f σ h).bind fun _ h1 => .ok (.next σ) h1
theorem ss_expr {e : Expr} {f : EF} {pos : Pos} (he : SE X e f) (hs : swapsWith e none pos.line X.env = pure false := by rfl) : SS X (.Expr e pos) (sExpr f) := ⟨PS.of (ps_expr he.out hs) fun D σ H q => by
  obtain ⟨ρ, σa, h, v, h', rh, rs, e, k⟩ := q
  obtain ⟨x, h1, e1, e⟩ := bind_eq e
  cases e
  exact ⟨ρ, σa, h, x, h', rh, rs, e1, fun ρ1 x' H1 p1 rh1 rx => k ρ1 H1 p1 rh1 σ (rs.up p1)⟩⟩
def sRet (f : EF) : SF := fun σ h => (f σ h).bind fun x h1 => .ok (.ret x) h1
theorem ss_ret {e : Expr} {f : EF} {pos : Pos} (he : SE X e f) : SS X (.Return (some e) pos) (sRet f) := ⟨PS.of (ps_ret he.out) fun D σ H q => by
  obtain ⟨ρ, σa, h, v, h', rh, rs, e, k⟩ := q
  obtain ⟨x, h1, e1, e⟩ := bind_eq e
  cases e
  exact ⟨ρ, σa, h, x, h', rh, rs, e1, fun ρ1 x' H1 p1 rh1 rx => k ρ1 H1 p1 rh1 x' rx⟩⟩
def sIf (c : TF) (f g : SF) : SF := fun σ h => (c σ h).bind fun b h1 => if b = true then f σ h1 else g σ h1
theorem ss_if {c : Expr} {a b : List Stmt} {t : TF} {f g : SF} {pos : Pos} (hc : ST X c t) (ha : SSs X a f) (hb : SSs X b g) : SS X (.If c a b pos) (sIf t f g) := ⟨PS.of (ps_if hc.out ha.out hb.out) fun D σ H q => by
  obtain ⟨ρ, σa, h, v, h', rh, rs, e, k⟩ := q
  obtain ⟨x, h1, e1, e⟩ := bind_eq e
  refine ⟨ρ, σa, h, x, h1, rh, rs, e1, fun ρ1 H1 p1 rh1 => ?_⟩
  cases x with
  | true => exact ⟨ρ1, σa, h1, v, h', rh1, rs.up p1, e, fun ρ2 H2 p2 rh2 => k ρ2 H2 (p1.trans p2) rh2⟩
  | false => exact ⟨ρ1, σa, h1, v, h', rh1, rs.up p1, e, fun ρ2 H2 p2 rh2 => k ρ2 H2 (p1.trans p2) rh2⟩⟩
def gSet (i : Nat) : GF := fun d σ h => .ok (σ.set i (some d)) h
theorem sg_name (i : Nat) {x : Str} {pos : Pos} (hN : X.N.Nodup) (hi : X.N[i]? = some x := by rfl) (hx : Loc X.env.scope x := by first | exact Or.inl rfl | exact Or.inr rfl) (hf : X.fn x = true ∨ X.env.scope.names.lookup x = some .local := by first | exact .inl rfl | exact .inr rfl | assumption) : SG X (.Name x pos) [i] (gSet i) :=
  ⟨PG.of (pg_name hN hi hx hf) fun v σ H Q q => by
  obtain ⟨ρ, σa, h, d, σ', h', rh, rs, rv, e, k⟩ := q
  cases e
  exact k ρ _ H Ext.refl rh (rs.set i rv) ⟨List.length_set, fun j hj => List.getElem?_set_ne (by simp at hj; omega)⟩⟩
abbrev GFs := List D → Fr → AH → R Fr
def tGs (K : PySem.W.Frag) (ws : List Nat) (g : GFs) : TGs := fun vs σ H Q => ∃ ρ σa h ds σa' h', RH K ρ h H ∧ RS K ρ H σa σ ∧ RVs K ρ H ds vs ∧ g ds σa h = .ok σa' h' ∧ ∀ ρ' σ' H', Ext K ρ H ρ' H' → RH K ρ' h' H' → RS K ρ' H' σa' σ' → Out ws σ σ' → Q σ' H'
structure SGs (X : Cx) (ts : List Expr) (ws : List Nat) (g : GFs) : Prop where
  out : PGs X ts (tGs X.K ws g)
def gsNil : GFs := fun ds σ h => match ds with | [] => .ok σ h | _ => .bad
def gsCons (g : GF) (r : GFs) : GFs := fun ds σ h => match ds with | d :: ds => (g d σ h).bind fun σ1 h1 => r ds σ1 h1 | [] => .bad
theorem PGs.of {ts : List Expr} {t t' : TGs} (h : PGs X ts t) (i : ∀ v σ H Q, t' v σ H Q → t v σ H Q) : PGs X ts t' := fun pins s σ H v u Q I r q => h pins s σ H v u Q I r (i v σ H Q q)
theorem sgs_nil : SGs X [] [] gsNil := ⟨PGs.of pgs_nil fun vs σ H Q q => by
  obtain ⟨ρ, σa, h, ds, σ', h', rh, rs, rv, e, k⟩ := q
  cases rv with
  | nil => cases e; exact ⟨rfl, k ρ σ H Ext.refl rh rs ⟨rfl, fun _ _ => rfl⟩⟩
  | cons _ _ => cases e⟩
theorem sgs_cons {t : Expr} {ts : List Expr} {g : GF} {r : GFs} {vs ws : List Nat} (h1 : SG X t vs g) (h2 : SGs X ts ws r) (hs : (assignEach (t :: ts) X.env).map (·.2) = assign t X.env :: (assignEach ts X.env).map (·.2) := by rfl) : SGs X (t :: ts) (vs ++ ws) (gsCons g r) := ⟨PGs.of (pgs_cons h1.out h2.out hs) fun vs σ H Q q => by
  obtain ⟨ρ, σa, h, ds, σ', h', rh, rs, rv, e, k⟩ := q
  cases rv with
  | nil => cases e
  | cons ra rb =>
    obtain ⟨σ1, h1, e1, e⟩ := bind_eq e
    refine ⟨_, _, rfl, ρ, σa, h, _, σ1, h1, rh, rs, ra, e1, fun ρ1 τ1 H1 p1 rh1 rs1 o1 => ⟨ρ1, σ1, h1, _, σ', h', rh1, rs1, rb.up p1, e, fun ρ2 τ2 H2 p2 rh2 rs2 o2 => k ρ2 τ2 H2 (p1.trans p2) rh2 rs2 ⟨o2.len.trans o1.len, fun i hi => by
      simp only [List.mem_append, not_or] at hi
      exact (o2.eq i hi.2).trans (o1.eq i hi.1)⟩⟩⟩⟩
def gTup (n : Nat) (g : GFs) : GF := fun d σ h => match d with | .tup xs => if xs.length = n then g xs σ h else .bad | _ => .bad
def sAsg (f : EF) (g : GF) : SF := fun σ h => (f σ h).bind fun x h1 => (g x σ h1).bind fun σ1 h2 => .ok (.next σ1) h2
theorem ss_asg {tg e : Expr} {f : EF} {g : GF} {vs : List Nat} {pos : Pos} (he : SE X e f) (hg : SG X tg vs g) (hs : swapsWithSole [tg] e pos.line X.env = pure false := by rfl) (hw : swappedStores [tg] e X.env = pure none := by rfl)
    (h1 : (assignEach [tg] X.env).map (·.2) = [assign tg X.env] := by rfl) : SS X (.Assign [tg] e pos) (sAsg f g) := ⟨PS.of (ps_asg he.out hg.out hs hw h1) fun D σ H q => by
  obtain ⟨ρ, σa, h, v, h', rh, rs, e, k⟩ := q
  obtain ⟨x, h1, e1, e⟩ := bind_eq e
  obtain ⟨σ1, h2, e2, e⟩ := bind_eq e
  cases e
  exact ⟨ρ, σa, h, x, h1, rh, rs, e1, fun ρ1 x' H1 p1 rh1 rx => ⟨ρ1, σa, h1, x, σ1, h', rh1, rs.up p1, rx, e2, fun ρ2 τ H2 p2 rh2 rs2 _ => k ρ2 H2 (p1.trans p2) rh2 τ rs2⟩⟩⟩
def sSet (i : Nat) (f : EF) : SF := fun σ h => (f σ h).bind fun x h1 => .ok (.next (σ.set i (some x))) h1
theorem ss_set (i : Nat) {x : Str} {e : Expr} {f : EF} {pos pos' : Pos} (hN : X.N.Nodup) (he : SE X e f) (hi : X.N[i]? = some x := by rfl) (hx : Loc X.env.scope x := by first | exact Or.inl rfl | exact Or.inr rfl)
    (hs : swapsWith e (some (.Name x pos')) pos.line X.env = pure false := by rfl) (hf : X.fn x = true ∨ X.env.scope.names.lookup x = some .local := by first | exact .inl rfl | exact .inr rfl | assumption) : SS X (.Assign [.Name x pos'] e pos) (sSet i f) :=
  ⟨PS.of (ps_set hN hi hx he.out hs hf) fun D σ H q => by
  obtain ⟨ρ, σa, h, v, h', rh, rs, e, k⟩ := q
  obtain ⟨x, h1, e1, e⟩ := bind_eq e
  cases e
  exact ⟨ρ, σa, h, x, h', rh, rs, e1, fun ρ1 x' H1 p1 rh1 rx => k ρ1 H1 p1 rh1 _ ((rs.up p1).set i rx)⟩⟩
def sPar (i j : Nat) (f : AF) : SF := fun σ h => (f σ h).bind fun xs h1 => match xs with | [x, y] => .ok (.next ((σ.set i (some x)).set j (some y))) h1 | _ => .bad
theorem ss_par (i j : Nat) {x y : Str} {a b : Expr} {f : AF} {px py pt pt2 pos : Pos} {kt k2 : Nat} (hc : X.calm = true) (hN : X.N.Nodup) (ha : SA X [a, b] f) (hi : X.N[i]? = some x := by rfl) (hj : X.N[j]? = some y := by rfl) (hij : i ≠ j := by decide)
    (hx : X.env.scope.names.lookup x = some .local := by rfl) (hy : X.env.scope.names.lookup y = some .local := by rfl)
    (hw : swappedStores [.Tuple [.Name x px, .Name y py] kt pt] (.Tuple [a, b] k2 pt2) X.env = pure (some [x, y]) := by rfl)
    (hs : swapsWithSole [.Tuple [.Name x px, .Name y py] kt pt] (.Tuple [a, b] k2 pt2) pos.line X.env = pure false := by rfl) : SS X (.Assign [.Tuple [.Name x px, .Name y py] kt pt] (.Tuple [a, b] k2 pt2) pos) (sPar i j f) :=
  ⟨PS.of (ps_par hc hN hi hj hij hx hy ha.out hw hs) fun D σ H q => by
  obtain ⟨ρ, σa, h, v, h', rh, rs, e, k⟩ := q
  obtain ⟨xs, h1, e1, e⟩ := bind_eq e
  refine ⟨ρ, σa, h, xs, h1, rh, rs, e1, fun ρ1 ys H1 p1 rh1 rx => ?_⟩
  split at e
  · cases e
    cases rx with
    | cons ra rb =>
      cases rb with
      | cons rb rc =>
        cases rc
        exact ⟨_, _, rfl, k ρ1 H1 p1 rh1 _ (((rs.up p1).set i ra).set j rb)⟩
  · cases e⟩
def setD (o i v : D) (h : AH) : R Unit := match o with
  | .ref n => match h[n]? with
    | some (.lst xs) => match i with
      | .int k => match ixN xs.length k with | some j => .ok () (h.set n (.lst (xs.set j v))) | none => .bad
      | _ => .bad
    | some (.dct kvs) => match dKey i with
      | some k => if kvs.length < sizeLine then .ok () (h.set n (.dct (dput kvs k v))) else .bad
      | none => .bad
    | _ => .bad
  | _ => .bad
def rSetA : TSet := fun o i v H Q => rSetL o i v H Q ∨ ∃ a H', o = .ref a ∧ DPut H a i v H' ∧ Q H'
theorem set_any (hu : X.A.units + 1 < cLine) : PSet X rSetA := by
  intro pins s σ H o i v ov iv u Q I ro ri rv h
  rcases h with h | ⟨a, H', rfl, g, q⟩
  · exact set_list pins s σ H o i v ov iv u Q I ro ri rv h
  · cases ro
    exact d_setItem hu I g ri rv fun s4 I4 => ⟨H', I4, q⟩
theorem setD_ok {K : PySem.W.Frag} {ρ : List Addr} {h h' : AH} {H : Hp} {o i v : D} {o' i' v' : V} {Q : Hp → Prop} (rh : RH K ρ h H) (ro : RV K ρ H o o') (ri : RV K ρ H i i') (rv : RV K ρ H v v') (e : setD o i v h = .ok () h')
    (k : ∀ H', Ext K ρ H ρ H' → RH K ρ h' H' → Q H') : rSetA o' i' v' H Q := by
  unfold setD at e
  split at e
  · rename_i n
    cases ro with
    | @ref _ a hr =>
      have ext : ∀ u, Ext K ρ H ρ (upd H a u) := fun u => Ext.upd (.inr (rh.mut hr))
      split at e
      · rename_i xs q0
        obtain ⟨ys, hy, r⟩ := rh.ob n _ a q0 hr
        split at e
        · rename_i z
          split at e
          · rename_i j ej
            cases e
            cases ri
            refine .inl ⟨a, ys, z, j, rfl, rfl, hy, by rw [← r.length]; exact ej, k _ (ext _) (rh.set hr ⟨_, upd_same, (r.set rv j).up (ext _)⟩)⟩
          · cases e
        · cases e
      · rename_i kvs q0
        obtain ⟨ys, hy, r⟩ := rh.ob n _ a q0 hr
        split at e
        · rename_i key ek
          split at e
          · rename_i hl
            cases e
            have := dKey_rel ek ri
            subst this
            refine .inr ⟨a, _, rfl, DPut.k hy (by rw [← r.length]; exact hl), k _ (ext _) (rh.set hr ⟨_, upd_same, (r.put rv).up (ext _)⟩)⟩
          · cases e
        · cases e
      · cases e
  · cases e
def sPut (fo fi fv : EF) : SF := fun σ h => (fv σ h).bind fun v h1 => (fo σ h1).bind fun o h2 => (fi σ h2).bind fun i h3 => (setD o i v h3).bind fun _ h4 => .ok (.next σ) h4
theorem ss_put {o i e : Expr} {fo fi fv : EF} {pos pos' : Pos} (hu : X.A.units + 1 < cLine) (ho : SE X o fo) (hi : SE X i fi) (he : SE X e fv)
    (ha : ∀ v, assign (.Subscript o i pos') X.env v = (do
      let ov ← holding [v] (eval o X.env)
      let iv ← holding [v, ov] (eval i X.env)
      standAt pos'
      holding [v, ov, iv] (setItem ov iv v)
      release [v, ov, iv] []) := by intro _; rfl)
    (hs : swapsWithSole [.Subscript o i pos'] e pos.line X.env = pure false := by rfl) (hw : swappedStores [.Subscript o i pos'] e X.env = pure none := by rfl)
    (h1 : (assignEach [.Subscript o i pos'] X.env).map (·.2) = [assign (.Subscript o i pos') X.env] := by rfl) : SS X (.Assign [.Subscript o i pos'] e pos) (sPut fo fi fv) :=
  ⟨PS.of (ps_asg he.out (pg_sub ho.out hi.out (set_any hu) ha) hs hw h1) fun D σ H q => by
  obtain ⟨ρ, σa, h, v, h', rh, rs, e, k⟩ := q
  obtain ⟨x, h1, e1, e⟩ := bind_eq e
  obtain ⟨y, h2, e2, e⟩ := bind_eq e
  obtain ⟨z, h3, e3, e⟩ := bind_eq e
  obtain ⟨_, h4, e4, e⟩ := bind_eq e
  cases e
  exact ⟨ρ, σa, h, x, h1, rh, rs, e1, fun ρ1 x' H1 p1 rh1 rx => ⟨ρ1, σa, h1, y, h2, rh1, rs.up p1, e2, fun ρ2 y' H2 p2 rh2 ry => ⟨ρ2, σa, h2, z, h3, rh2, rs.up (p1.trans p2), e3, fun ρ3 z' H3 p3 rh3 rz =>
    setD_ok rh3 (ry.up p3) rz (rx.up (p2.trans p3)) e4 fun H4 p4 rh4 => k ρ3 H4 (p1.trans (p2.trans (p3.trans p4))) rh4 σ (rs.up (p1.trans (p2.trans (p3.trans p4))))⟩⟩⟩⟩
end
end EV
set_option Elab.async false
set_option linter.all false
set_option autoImplicit false
set_option maxRecDepth 100000
namespace EV
open PySem PySem.Spec PyProof.Rows L2
structure Src where
  items : List D
  chk : AH → Prop
abbrev IF := Fr → AH → R Src
def ItOk (K : PySem.W.Frag) (ρ0 : List Addr) (H0 : Hp) (J : It) (s : Src) : Prop := ∀ (ρ : List Addr) (h : AH) (H : Hp) (i : Nat), Ext K ρ0 H0 ρ H → RH K ρ h H → s.chk h →
  (s.items.length ≤ i → J.stop i H) ∧ ∀ x, s.items[i]? = some x → J.go i H ∧ ∀ y H', J.yld i H y H' → Ext K ρ H ρ H' ∧ RH K ρ h H' ∧ RV K ρ H' x y
def tI (K : PySem.W.Frag) (f : IF) : TI := fun σ H R => ∃ ρ σa h s h', RH K ρ h H ∧ RS K ρ H σa σ ∧ f σa h = .ok s h' ∧ ∀ ρ' J H', Ext K ρ H ρ' H' → RH K ρ' h' H' → ItOk K ρ' H' J s → R J H'
structure SI (X : Cx) (tg iter : Expr) (f : IF) : Prop where
  out : PI X tg iter (tI X.K f)
section
variable {X : Cx} {tg : Expr}
theorem PI.of {it : Expr} {t t' : TI} (h : PI X tg it t) (i : ∀ σ H R, t' σ H R → t σ H R) : PI X tg it t' := fun pins s σ H R I q => h pins s σ H R I (i σ H R q)
def still (xs : List D) : Src := ⟨xs, fun _ => True⟩
def held (n : Nat) (xs : List D) : Src := ⟨xs, fun h => h[n]? = some (.lst xs)⟩
def srcD (x : D) (h : AH) : R Src := match x with
  | .tup xs => .ok (still xs) h
  | .fz xs => .ok (still xs) h
  | .ref n => match h[n]? with | some (.lst xs) => .ok (held n xs) h | _ => .bad
  | _ => .bad
def iSeq (f : EF) : IF := fun σ h => (f σ h).bind srcD
def iAny (K : PySem.W.Frag) (tl : TE) : TI := fun σ H R => tl σ H fun x H1 => (∃ a, x = .ref a ∧ (∃ xs, SqL K H1 a xs) ∧ R (Itl K a) H1) ∨ ∃ a, x = .ref a ∧ (∃ xs, SqT K H1 a xs) ∧ R (Itt K a) H1
theorem pi_any {l : Expr} {tl : TE} (hl : PE X l tl) : PI X tg l (iAny X.K tl) := by
  intro pins s σ H R I h
  refine thn (hl pins s σ H _ I h) fun v s1 ⟨x, H1, I1, r1, q1⟩ => ?_
  rcases q1 with ⟨a, e, ⟨xs, hq⟩, q⟩ | ⟨a, e, ⟨xs, hq⟩, q⟩
  · subst e
    cases r1
    obtain ⟨its, rv, p, hz⟩ := I1.list hq
    refine wpAny_pyIter_list p.isList ?_
    refine ⟨s1.heap.objs.size, [s1.heap.objs.size], _, _, H1, rfl, I1.kept (t' := s1.toks) fun b o e => Heap.get?_push_of_some _ e, turn_list a _, ⟨_, Heap.get?_push_size _ rfl, rfl, rfl⟩, fun b hb => ?_, q⟩
    have e : b = s1.heap.objs.size := by simpa using hb
    subst e
    exact I1.fpOk (Nat.le_refl _) (I1.hok.fresh (Nat.le_refl _))
  · subst e
    cases r1
    obtain ⟨its, rv, p, hz⟩ := I1.tuple hq
    refine wpAny_pyIter_tuple (show s1.heap.IsTuple a its.toArray from p) ?_
    refine ⟨s1.heap.objs.size, [s1.heap.objs.size], _, _, H1, rfl, I1.kept (t' := s1.toks) fun b o e => Heap.get?_push_of_some _ e, turn_tuple a _, ⟨_, Heap.get?_push_size _ rfl, rfl, rfl⟩, fun b hb => ?_, q⟩
    have e : b = s1.heap.objs.size := by simpa using hb
    subst e
    exact I1.fpOk (Nat.le_refl _) (I1.hok.fresh (Nat.le_refl _))
theorem it_list {K : PySem.W.Frag} {ρ0 : List Addr} {H0 : Hp} {a : Addr} {s : Src} (h : ∀ (ρ : List Addr) (h : AH) (H : Hp), Ext K ρ0 H0 ρ H → RH K ρ h H → s.chk h → ∃ ys, SqL K H a ys ∧ RVs K ρ H s.items ys) : ItOk K ρ0 H0 (Itl K a) s := by
  intro ρ hh H i ext rh c
  obtain ⟨ys, hy, r⟩ := h ρ hh H ext rh c
  refine ⟨fun hl => ⟨ys, hy, by rw [← r.length]; exact hl⟩, fun x hx => ?_⟩
  obtain ⟨y, e, rv⟩ := r.get hx
  refine ⟨⟨ys, y, hy, e⟩, fun z H' ⟨eH, q⟩ => ?_⟩
  subst eH
  have e2 := q ys hy
  rw [e] at e2; cases e2
  exact ⟨Ext.refl, rh, rv⟩
theorem it_tup {K : PySem.W.Frag} {ρ0 : List Addr} {H0 : Hp} {a : Addr} {s : Src} (h : ∀ (ρ : List Addr) (h : AH) (H : Hp), Ext K ρ0 H0 ρ H → RH K ρ h H → s.chk h → ∃ ys, SqT K H a ys ∧ RVs K ρ H s.items ys) : ItOk K ρ0 H0 (Itt K a) s := by
  intro ρ hh H i ext rh c
  obtain ⟨ys, hy, r⟩ := h ρ hh H ext rh c
  refine ⟨fun hl => ⟨ys, hy, by rw [← r.length]; exact hl⟩, fun x hx => ?_⟩
  obtain ⟨y, e, rv⟩ := r.get hx
  refine ⟨⟨ys, y, hy, e⟩, fun z H' ⟨eH, q⟩ => ?_⟩
  subst eH
  have e2 := q ys hy
  rw [e] at e2; cases e2
  exact ⟨Ext.refl, rh, rv⟩
theorem si_seq {l : Expr} {f : EF} (hl : SE X l f) : SI X tg l (iSeq f) := ⟨PI.of (pi_any hl.out) fun σ H R q => by
  obtain ⟨ρ, σa, h, s, h', rh, rs, e, k⟩ := q
  obtain ⟨x, h1, e1, e⟩ := bind_eq e
  refine ⟨ρ, σa, h, x, h1, rh, rs, e1, fun ρ1 x' H1 p1 rh1 rx => ?_⟩
  unfold srcD at e
  split at e
  · cases e
    cases rx with
    | tup hs r => exact .inr ⟨_, rfl, ⟨_, hs⟩, k ρ1 _ H1 p1 rh1 (it_tup fun ρ2 h2 H2 p2 rh2 _ => ⟨_, p2.tup _ _ hs, r.up p2⟩)⟩
  · cases e
    cases rx with
    | fz hs r => exact .inl ⟨_, rfl, ⟨_, hs.sq⟩, k ρ1 _ H1 p1 rh1 (it_list fun ρ2 h2 H2 p2 rh2 _ => ⟨_, (p2.fz _ _ hs).sq, r.up p2⟩)⟩
  · rename_i n
    cases rx with
    | @ref _ a hr =>
      split at e
      · rename_i xs q0
        cases e
        obtain ⟨ys, hy, r⟩ := rh1.ob _ _ a q0 hr
        refine .inl ⟨a, rfl, ⟨ys, SqL.of hy⟩, k ρ1 _ H1 p1 rh1 (it_list fun ρ2 h2 H2 p2 rh2 c => ?_)⟩
        obtain ⟨zs, hz, rz⟩ := rh2.ob _ _ a c (p2.pre _ _ hr)
        exact ⟨zs, SqL.of hz, rz⟩
      · cases e
  · cases e⟩
def rangeD (lo : Int) (n : Nat) : List D := (List.range n).map fun (i : Nat) => D.int (lo + (i : Int))
def iR1 (f : AF) : IF := fun σ h => (f σ h).bind fun xs h1 => match xs with | [.int j] => if -(2 ^ 62) ≤ j ∧ j < 2 ^ 62 then .ok (still (rangeD 0 j.toNat)) h1 else .bad | _ => .bad
theorem it_range {K : PySem.W.Frag} {ρ0 : List Addr} {H0 : Hp} {lo : Int} {n : Nat} : ItOk K ρ0 H0 (Itr lo n) (still (rangeD lo n)) := by
  intro ρ h H i ext rh c
  have hl : (rangeD lo n).length = n := by simp [rangeD]
  refine ⟨fun q => by show n ≤ i; rw [← hl]; exact q, fun x hx => ?_⟩
  have hi : i < n := by rw [← hl]; exact (List.getElem?_eq_some_iff.mp hx).1
  refine ⟨hi, fun y H' ⟨eH, ey⟩ => ?_⟩
  subst eH ey
  have : x = .int (lo + i) := by
    have hx : (rangeD lo n)[i]? = some x := hx
    simp [rangeD, hi] at hx
    exact hx.symm
  subst this
  exact ⟨Ext.refl, rh, .int _⟩
theorem si_r1 {a : Expr} {f : AF} {p pos : Pos} (hm : X.mg "range" = none) (ha : SA X [a] f) (hg : Gl X "range" := by rfl) (hs : starEach [a] X.env = [(false, eval a X.env)] := by rfl) : SI X tg (.Call (.Name "range" p) [a] [] pos) (iR1 f) :=
  ⟨PI.of (pi_range1 hg hm ha.out hs) fun σ H R q => by
  obtain ⟨ρ, σa, h, s, h', rh, rs, e, k⟩ := q
  obtain ⟨xs, h1, e1, e⟩ := bind_eq e
  refine ⟨ρ, σa, h, xs, h1, rh, rs, e1, fun ρ1 ys H1 p1 rh1 rx => ?_⟩
  split at e
  · split at e
    · rename_i j c
      cases e
      cases rx with
      | cons ra rb =>
        cases rb
        cases ra
        exact ⟨j, rfl, c.1, c.2, k ρ1 _ H1 p1 rh1 it_range⟩
    · cases e
  · cases e⟩
open Classical in
noncomputable def forD (s : Src) (g : GF) (b : SF) : List D → Fr → AH → R Fl
  | [], σ, h => if s.chk h then .ok (.next σ) h else .bad
  | x :: xs, σ, h => if s.chk h then (g x σ h).bind fun σ1 h1 => (b σ1 h1).bind fun fl h2 => match fl with
      | .next σ2 => forD s g b xs σ2 h2
      | .cont σ2 => forD s g b xs σ2 h2
      | .brk σ2 => .ok (.next σ2) h2
      | .ret v => .ok (.ret v) h2
    else .bad
noncomputable def sFor (f : IF) (g : GF) (b : SF) : SF := fun σ h => (f σ h).bind fun s h1 => forD s g b s.items σ h1
theorem ss_for {iter : Expr} {body : List Stmt} {f : IF} {vs : List Nat} {g : GF} {b : SF} {pos : Pos} (hc : X.calm = true) (hi : SI X tg iter f) (hg : SG X tg vs g) (hb : SSs X body b) (hp : PassesOwn (model X.prog X.w) X.A X.env X.xe := by exact PassesOwn.never)
    (hs : ∀ x, foldedSetIterable iter X.env x = pure x := by intro _; rfl) : SS X (.For tg iter body [] pos) (sFor f g b) := ⟨PS.of (ps_for hp hc hi.out hg.out hb.out hs) fun D σ H q => by
  obtain ⟨ρ, σa, h, fl, h', rh, rs, e, k⟩ := q
  obtain ⟨s, h1, e1, e⟩ := bind_eq e
  refine ⟨ρ, σa, h, s, h1, rh, rs, e1, fun ρ1 J H1 p1 rh1 ok => ?_⟩
  refine ⟨fun i m τ H2 => ∃ ρ2 σ2 h2, Ext X.K ρ1 H1 ρ2 H2 ∧ RH X.K ρ2 h2 H2 ∧ RS X.K ρ2 H2 σ2 τ ∧ i ≤ s.items.length ∧ m = s.items.length - i ∧ forD s g b (s.items.drop i) σ2 h2 = .ok fl h', ⟨_, ρ1, σa, h1, Ext.refl, rh1, rs.up p1, Nat.zero_le _, rfl, by simpa using e⟩, ?_⟩
  rintro i m τ H2 ⟨ρ2, σ2, h2, p2, rh2, rs2, hi, rfl, e2⟩
  by_cases hlt : i < s.items.length
  · right
    have hx : s.items[i]? = some s.items[i] := List.getElem?_eq_getElem hlt
    rw [List.drop_eq_getElem_cons hlt] at e2
    unfold forD at e2
    split at e2
    · rename_i chk
      obtain ⟨_, w⟩ := ok ρ2 h2 H2 i p2 rh2 chk
      obtain ⟨go, yl⟩ := w _ hx
      obtain ⟨σ3, h3, e3, e2⟩ := bind_eq e2
      obtain ⟨f4, h4, e4, e2⟩ := bind_eq e2
      refine ⟨go, _, fun σ' H' n => n, fun y H3 yd => ?_⟩
      obtain ⟨p3, rh3, rv⟩ := yl y H3 yd
      refine ⟨ρ2, σ2, h2, _, σ3, h3, rh3, rs2.up p3, rv, e3, fun ρ4 τ4 H4 p4 rh4 rs4 _ => ⟨ρ4, σ3, h3, f4, h4, rh4, rs4, e4, fun ρ5 H5 p5 rh5 => ?_⟩⟩
      have pp := p2.trans (p3.trans (p4.trans p5))
      cases f4 with
      | next σ5 => exact fun τ5 rs5 => ⟨_, by omega, ρ5, σ5, h4, pp, rh5, rs5, hlt, rfl, e2⟩
      | cont σ5 => exact fun τ5 rs5 => ⟨_, by omega, ρ5, σ5, h4, pp, rh5, rs5, hlt, rfl, e2⟩
      | brk σ5 => cases e2; exact k ρ5 H5 (p1.trans pp) rh5
      | ret v => cases e2; exact k ρ5 H5 (p1.trans pp) rh5
    · cases e2
  · left
    have hi' : i = s.items.length := by omega
    subst hi'
    rw [List.drop_length] at e2
    unfold forD at e2
    split at e2
    · rename_i chk
      cases e2
      exact ⟨(ok ρ2 _ H2 _ p2 rh2 chk).1 (Nat.le_refl _), k ρ2 H2 (p1.trans p2) rh2 τ rs2⟩
    · cases e2⟩
def whileD (c : TF) (b : SF) : Nat → Fr → AH → R Fl
  | 0, _, _ => .bad
  | n + 1, σ, h => (c σ h).bind fun t h1 => if t = true then (b σ h1).bind fun fl h2 => match fl with
      | .next σ2 => whileD c b n σ2 h2
      | .cont σ2 => whileD c b n σ2 h2
      | .brk σ2 => .ok (.next σ2) h2
      | .ret v => .ok (.ret v) h2
    else .ok (.next σ) h1
def sWhile (m : Fr → Nat) (c : TF) (b : SF) : SF := fun σ h => whileD c b (m σ) σ h
theorem ss_while (m : Fr → Nat) {c : Expr} {body : List Stmt} {t : TF} {b : SF} {pos : Pos} (hc : ST X c t) (hb : SSs X body b) (hp : PassesOwn (model X.prog X.w) X.A X.env X.xe := by exact PassesOwn.never) : SS X (.While c body [] pos) (sWhile m t b) :=
  ⟨PS.of (ps_while hp hc.out hb.out) fun D σ H q => by
  obtain ⟨ρ, σa, h, fl, h', rh, rs, e, k⟩ := q
  refine ⟨fun n τ H2 => ∃ ρ2 σ2 h2, Ext X.K ρ H ρ2 H2 ∧ RH X.K ρ2 h2 H2 ∧ RS X.K ρ2 H2 σ2 τ ∧ whileD t b n σ2 h2 = .ok fl h', ⟨m σa, ρ, σa, h, Ext.refl, rh, rs, e⟩, ?_⟩
  rintro n τ H2 ⟨ρ2, σ2, h2, p2, rh2, rs2, e2⟩
  cases n with
  | zero => cases e2
  | succ n =>
    unfold whileD at e2
    obtain ⟨x, h3, e3, e2⟩ := bind_eq e2
    refine ⟨ρ2, σ2, h2, x, h3, rh2, rs2, e3, fun ρ3 H3 p3 rh3 => ?_⟩
    cases x with
    | false =>
      rw [if_neg Bool.false_ne_true] at e2 ⊢
      cases e2
      exact k ρ3 H3 (p2.trans p3) rh3 τ (rs2.up p3)
    | true =>
      rw [if_pos rfl] at e2 ⊢
      obtain ⟨f4, h4, e4, e2⟩ := bind_eq e2
      refine ⟨_, fun σ' H' n => n, ρ3, σ2, h3, f4, h4, rh3, rs2.up p3, e4, fun ρ4 H4 p4 rh4 => ?_⟩
      have pp := p2.trans (p3.trans p4)
      cases f4 with
      | next σ5 => exact fun τ5 rs5 => ⟨n, Nat.lt_succ_self _, ρ4, σ5, h4, pp, rh4, rs5, e2⟩
      | cont σ5 => exact fun τ5 rs5 => ⟨n, Nat.lt_succ_self _, ρ4, σ5, h4, pp, rh4, rs5, e2⟩
      | brk σ5 => cases e2; exact k ρ4 H4 pp rh4
      | ret v => cases e2; exact k ρ4 H4 pp rh4⟩
structure STs (X : Cx) (ifs : List Expr) (f : TF) : Prop where
  out : PTs X ifs (tT X.K f)
end
end EV
set_option Elab.async false
set_option linter.all false
set_option autoImplicit false
set_option maxRecDepth 100000
namespace EV
open PySem PySem.Spec PyProof.Rows L2
mutual
def toP (h : AH) : Nat → D → Option PyData
  | 0, _ => none
  | n + 1, d => match d with
    | .non => some .none
    | .bl b => some (.bool b)
    | .int i => some (.int i)
    | .str x => some (.str x)
    | .tup xs => (toPs h n xs).map .tuple
    | .fz xs => (toPs h n xs).map .list
    | .ref m => match h[m]? with | some (.lst xs) => (toPs h n xs).map .list | _ => none
    | .exc _ _ _ => none
def toPs (h : AH) : Nat → List D → Option (List PyData)
  | 0, _ => none
  | _ + 1, [] => some []
  | n + 1, x :: xs => match toP h (n + 1) x, toPs h (n + 1) xs with | some d, some ds => some (d :: ds) | _, _ => none
end
mutual
theorem toP_dp {K : PySem.W.Frag} {ρ : List Addr} {h : AH} {H : Hp} (rh : RH K ρ h H) : ∀ (n : Nat) (d : D) (v : V) (p : PyData), toP h n d = some p → RV K ρ H d v → Dp K H v p
  | 0, _, _, _, e, _ => by simp [toP] at e
  | n + 1, .non, _, _, e, r => by simp [toP] at e; subst e; cases r; exact .non
  | n + 1, .bl b, _, _, e, r => by simp [toP] at e; subst e; cases r; exact .bl b
  | n + 1, .int i, _, _, e, r => by simp [toP] at e; subst e; cases r; exact .int i
  | n + 1, .str x, _, _, e, r => by simp [toP] at e; subst e; cases r; exact .str x
  | n + 1, .tup xs, _, _, e, r => by
    simp only [toP, Option.map_eq_some_iff] at e
    obtain ⟨ds, e, rfl⟩ := e
    cases r with
    | tup hs r => exact .tup hs (toPs_dp rh n xs _ ds e r)
  | n + 1, .fz xs, _, _, e, r => by
    simp only [toP, Option.map_eq_some_iff] at e
    obtain ⟨ds, e, rfl⟩ := e
    cases r with
    | fz hs r => exact .lst hs.sq (toPs_dp rh n xs _ ds e r)
  | n + 1, .ref m, _, _, e, r => by
    simp only [toP] at e
    split at e
    · rename_i xs q
      simp only [Option.map_eq_some_iff] at e
      obtain ⟨ds, e, rfl⟩ := e
      cases r with
      | ref hr =>
        obtain ⟨ys, hy, ry⟩ := rh.ob _ _ _ q hr
        exact .lst (SqL.of hy) (toPs_dp rh n xs _ ds e ry)
    · cases e
  | n + 1, .exc _ _ _, _, _, e, _ => by simp [toP] at e
theorem toPs_dp {K : PySem.W.Frag} {ρ : List Addr} {h : AH} {H : Hp} (rh : RH K ρ h H) : ∀ (n : Nat) (ds : List D) (vs : List V) (ps : List PyData), toPs h n ds = some ps → RVs K ρ H ds vs → DpAll K H vs ps
  | 0, _, _, _, e, _ => by simp [toPs] at e
  | n + 1, [], _, _, e, r => by simp [toPs] at e; subst e; cases r; exact .nil
  | n + 1, x :: xs, _, _, e, r => by
    simp only [toPs] at e
    split at e
    · rename_i d ds e1 e2
      cases e
      cases r with
      | cons ra rb => exact .cons (toP_dp rh (n + 1) x _ d e1 ra) (toPs_dp rh (n + 1) xs _ ds e2 rb)
    · cases e
end
abbrev deep : Nat := 40
section
variable {X : Cx}
def dataOp (g : PyData → PyData → Bool) : Op2 := fun x y h => match toP h deep x, toP h deep y with
  | some d, some e => if SeqAt.shaped d = true ∧ SeqAt.shaped e = true then .ok (.bl (g d e)) h else .bad
  | _, _ => .bad
def strOp (g : Str → Str → Bool) : Op2 := fun x y h => match x, y with | .str a, .str b => .ok (.bl (g a b)) h | _, _ => .bad
def orOp (p q : Op2) : Op2 := fun x y h => match p x y h with | .ok v h' => .ok v h' | _ => q x y h
theorem orOp_hd {p q : Op2} : ∀ x y k v k', orOp p q x y k = .ok v k' → p x y k = .ok v k' ∨ q x y k = .ok v k' := fun x y k v k' e => by
  unfold orOp at e
  split at e
  · rename_i v' h' q; cases e; exact .inl q
  · exact .inr e
def oEq : Op2 := orOp (strOp fun a b => decide (a = b)) (dataOp PyData.eqv)
def oNe : Op2 := orOp (strOp fun a b => !decide (a = b)) (dataOp fun d e => !PyData.eqv d e)
theorem sp_str {K : PySem.W.Frag} {g : Str → Str → Bool} {r : R2} (hr : ∀ a b H Q, Q (.bl (g a b)) H → r (.str a) (.str b) H Q) : OpS K (strOp g) r := by
  intro ρ h H x y x' y' v h' Q rh rx ry e k
  unfold strOp at e
  split at e
  · cases e
    cases rx
    cases ry
    exact hr _ _ H Q (k ρ _ H Ext.refl rh (.bl _))
  · cases e
theorem sp_data {K : PySem.W.Frag} {g : PyData → PyData → Bool} : OpS K (dataOp g) (fun x y H Q => ∃ d e, Dp K H x d ∧ Dp K H y e ∧ SeqAt.shaped d = true ∧ SeqAt.shaped e = true ∧ Q (.bl (g d e)) H) := by
  intro ρ h H x y x' y' v h' Q rh rx ry e k
  unfold dataOp at e
  split at e
  · rename_i d d' e1 e2
    split at e
    · rename_i c
      cases e
      exact ⟨d, d', toP_dp rh _ _ _ _ e1 rx, toP_dp rh _ _ _ _ e2 ry, c.1, c.2, k ρ _ H Ext.refl rh (.bl _)⟩
    · cases e
  · cases e
theorem op_eqA (hu : X.A.units + 64 < cLine) : OpR X (compareOp .Eq) (fun x y H Q => rEq x y H Q ∨ rEqD X.K x y H Q) := OpR.or op_eq (op_eqD hu)
theorem op_neA (hu : X.A.units + 64 < cLine) : OpR X (compareOp .NotEq) (fun x y H Q => rNe x y H Q ∨ rNeD X.K x y H Q) := OpR.or op_ne (op_neD hu)
theorem dec_str' {a b : Str} : decide (V.str a = V.str b) = decide (a = b) := by
  by_cases e : a = b
  · subst e; simp
  · rw [decide_eq_false (fun q => e (V.str.inj q)), decide_eq_false e]
theorem sp_eq {K : PySem.W.Frag} : OpS K oEq (fun x y H Q => rEq x y H Q ∨ rEqD K x y H Q) := OpS.or (sp_str fun a b H Q q => ⟨rfl, by rw [dec_str']; exact q⟩) sp_data orOp_hd
theorem sp_ne {K : PySem.W.Frag} : OpS K oNe (fun x y H Q => rNe x y H Q ∨ rNeD K x y H Q) := OpS.or (sp_str fun a b H Q q => ⟨rfl, by rw [dec_str']; exact q⟩) sp_data orOp_hd
def flatD : D → Bool
  | .non => true
  | .bl _ => true
  | .int _ => true
  | .str _ => true
  | _ => false
def eqF : D → D → Bool
  | .non, .non => true
  | .bl a, .bl b => a == b
  | .bl a, .int b => (if a then 1 else 0) == b
  | .int a, .bl b => a == (if b then 1 else 0)
  | .int a, .int b => a == b
  | .str a, .str b => a == b
  | _, _ => false
def seqOf (y : D) (h : AH) : Option (List D) := match y with
  | .tup xs => some xs
  | .fz xs => some xs
  | .ref n => match h[n]? with | some (.lst xs) => some xs | _ => none
  | _ => none
theorem seq_rel {K : PySem.W.Frag} {ρ : List Addr} {h : AH} {H : Hp} (rh : RH K ρ h H) {y : D} {v : V} {xs : List D} (e : seqOf y h = some xs) (r : RV K ρ H y v) : ∃ p ys, v = .ref p ∧ (SqL K H p ys ∨ SqT K H p ys) ∧ RVs K ρ H xs ys := by
  unfold seqOf at e
  split at e
  · cases e
    cases r with
    | tup hs r => exact ⟨_, _, rfl, .inr hs, r⟩
  · cases e
    cases r with
    | fz hs r => exact ⟨_, _, rfl, .inl hs.sq, r⟩
  · split at e
    · rename_i q
      cases e
      cases r with
      | ref hr =>
        obtain ⟨ys, hy, ry⟩ := rh.ob _ _ _ q hr
        exact ⟨_, _, rfl, .inl (SqL.of hy), ry⟩
    · cases e
  · cases e
abbrev BF := List D → AH → R D
def CallS (K : PySem.W.Frag) (o : BF) (r : List V → Hp → VK → Prop) : Prop := ∀ (ρ : List Addr) (h : AH) (H : Hp) (xs : List D) (ys : List V) (v : D) (h' : AH) (Q : VK), RH K ρ h H → RVs K ρ H xs ys → o xs h = .ok v h' →
  (∀ ρ' z H', Ext K ρ H ρ' H' → RH K ρ' h' H' → RV K ρ' H' v z → Q z H') → r ys H Q
def eApp (o : BF) (f : AF) : EF := fun σ h => (f σ h).bind fun xs h1 => o xs h1
theorem app_in {K : PySem.W.Frag} {o : BF} {r : List V → Hp → VK → Prop} {f : AF} (hs : CallS K o r) : ∀ σ H Q, tE K (eApp o f) σ H Q → tCB r (tA K f) σ H Q := fun σ H Q q => by
  obtain ⟨ρ, σa, h, v, h', rh, rs, e, k⟩ := q
  obtain ⟨xs, h1, e1, e⟩ := bind_eq e
  exact ⟨ρ, σa, h, xs, h1, rh, rs, e1, fun ρ1 ys H1 p1 rh1 rx => hs ρ1 h1 H1 xs ys v h' Q rh1 rx e fun ρ2 z H2 p2 rh2 rz => k ρ2 z H2 (p1.trans p2) rh2 rz⟩
theorem se_bi {x : Str} {id : String} {o : BF} {r : List V → Hp → VK → Prop} {e : Expr} {es : List Expr} {f : AF} {p pos : Pos} (hc : CallR X (.builtin id) r) (hs : CallS X.K o r) (hm : X.mg x = none) (hv : bootBuiltins x = some (.builtin id)) (ha : SA X (e :: es) f) (hg : Gl X x := by rfl) (hn : x ≠ "__name__" := by decide +kernel) (hdb : (x == ("__debug__" : Str)) = false := by decide +kernel)
    (he : starEach (e :: es) X.env = (false, eval e X.env) :: starEach es X.env := by rfl) (hpl : (backTo pos (starEach es X.env)).any (·.1) = false := by rfl) : SE X (.Call (.Name x p) (e :: es) [] pos) (eApp o f) :=
  ⟨PE.of (pe_callB hc hg hm hv ha.out hn hdb he hpl) (app_in hs)⟩
theorem se_ty {x : Str} {id : String} {o : BF} {r : List V → Hp → VK → Prop} {e : Expr} {es : List Expr} {f : AF} {p pos : Pos} (hc : CallR X (.type id) r) (hs : CallS X.K o r) (hm : X.mg x = none) (hv : bootBuiltins x = some (.type id)) (ha : SA X (e :: es) f) (hg : Gl X x := by rfl) (hn : x ≠ "__name__" := by decide +kernel) (hdb : (x == ("__debug__" : Str)) = false := by decide +kernel)
    (he : starEach (e :: es) X.env = (false, eval e X.env) :: starEach es X.env := by rfl) (hpl : (backTo pos (starEach es X.env)).any (·.1) = false := by rfl) : SE X (.Call (.Name x p) (e :: es) [] pos) (eApp o f) :=
  ⟨PE.of (pe_callTy hc hg hm hv ha.out hn hdb he hpl) (app_in hs)⟩
def bAbs : BF := fun xs h => match xs with | [.int i] => .ok (.int (if i < 0 then -i else i)) h | _ => .bad
theorem sp_abs {K : PySem.W.Frag} : CallS K bAbs (fun xs H Q => ∃ i, xs = [.int i] ∧ Q (.int (if i < 0 then -i else i)) H) := by
  intro ρ h H xs ys v h' Q rh rx e k
  unfold bAbs at e
  split at e
  · cases e
    cases rx with
    | cons a b => cases b; cases a; exact ⟨_, rfl, k ρ _ H Ext.refl rh (.int _)⟩
  · cases e
theorem se_abs {e : Expr} {f : AF} {p pos : Pos} (hm : X.mg "abs" = none) (ha : SA X [e] f) (hg : Gl X "abs" := by rfl) (he : starEach [e] X.env = (false, eval e X.env) :: starEach [] X.env := by rfl) (hpl : (backTo pos (starEach [] X.env)).any (·.1) = false := by rfl) : SE X (.Call (.Name "abs" p) [e] [] pos) (eApp bAbs f) :=
  se_bi call_abs sp_abs hm (by decide +kernel) ha hg (by decide +kernel) (by decide +kernel) he hpl
def bLen : BF := fun xs h => match xs with
  | [x] => match seqOf x h with
    | some ys => .ok (.int ys.length) h
    | none => match x with
      | .ref n => match h[n]? with | some (.dct kvs) => .ok (.int kvs.length) h | _ => .bad
      | _ => .bad
  | _ => .bad
def rLenA (K : PySem.W.Frag) : List V → Hp → VK → Prop := fun xs H Q => (∃ p ys, xs = [.ref p] ∧ (SqL K H p ys ∨ SqT K H p ys) ∧ Q (.int ys.length) H) ∨ ∃ a kvs, xs = [V.ref a] ∧ H a = some (.dK kvs) ∧ Q (.int kvs.length) H
theorem call_lenA : CallR X (.builtin "len") (rLenA X.K) := by
  intro pins s σ H xs us Q I r h
  rcases h with h | h
  · exact call_len_seq pins s σ H xs us Q I r h
  · exact call_lenD pins s σ H xs us Q I r h
theorem sp_len {K : PySem.W.Frag} : CallS K bLen (rLenA K) := by
  intro ρ h H xs ys v h' Q rh rx e k
  unfold bLen at e
  split at e
  · rename_i x
    cases rx with
    | cons a b =>
      cases b
      split at e
      · rename_i zs q
        cases e
        obtain ⟨p, ys, rfl, hs, r⟩ := seq_rel rh q a
        refine .inl ⟨p, ys, rfl, hs, ?_⟩
        rw [← r.length]
        exact k ρ _ H Ext.refl rh (.int _)
      · split at e
        · split at e
          · rename_i q
            cases e
            cases a with
            | ref hr =>
              obtain ⟨ys, hy, ry⟩ := rh.ob _ _ _ q hr
              refine .inr ⟨_, ys, rfl, hy, ?_⟩
              rw [← ry.length]
              exact k ρ _ H Ext.refl rh (.int _)
          · cases e
        · cases e
  · cases e
theorem se_len {e : Expr} {f : AF} {p pos : Pos} (hm : X.mg "len" = none) (ha : SA X [e] f) (hg : Gl X "len" := by rfl) (he : starEach [e] X.env = (false, eval e X.env) :: starEach [] X.env := by rfl) (hpl : (backTo pos (starEach [] X.env)).any (·.1) = false := by rfl) : SE X (.Call (.Name "len" p) [e] [] pos) (eApp bLen f) :=
  se_bi call_lenA sp_len hm (by decide +kernel) ha hg (by decide +kernel) (by decide +kernel) he hpl
def bList : BF := fun xs h => match xs with
  | [x] => match seqOf x h with | some ys => newL ys h | none => .bad
  | _ => .bad
theorem sp_list {K : PySem.W.Frag} : CallS K bList (fun xs H Q => ∃ p ys, xs = [.ref p] ∧ (SqL K H p ys ∨ SqT K H p ys) ∧ ∀ l, H l = none → Q (.ref l) (upd H l (.lst ys))) := by
  intro ρ h H xs ys v h' Q rh rx e k
  unfold bList at e
  split at e
  · split at e
    · rename_i q
      cases e
      cases rx with
      | cons a b =>
        cases b
        obtain ⟨p, ys, rfl, hs, r⟩ := seq_rel rh q a
        refine ⟨p, ys, rfl, hs, fun l hl => ?_⟩
        obtain ⟨a, b, c⟩ := newL_ok rh r hl
        exact k _ _ _ a b c
    · cases e
  · cases e
theorem se_list {e : Expr} {f : AF} {p pos : Pos} (hm : X.mg "list" = none) (ha : SA X [e] f) (hg : Gl X "list" := by rfl) (he : starEach [e] X.env = (false, eval e X.env) :: starEach [] X.env := by rfl) (hpl : (backTo pos (starEach [] X.env)).any (·.1) = false := by rfl) : SE X (.Call (.Name "list" p) [e] [] pos) (eApp bList f) :=
  se_ty call_list_of sp_list hm (by decide +kernel) ha hg (by decide +kernel) (by decide +kernel) he hpl
def bInt : BF := fun xs h => match xs with
  | [.int i] => .ok (.int i) h
  | [.bl b] => .ok (.int (if b then 1 else 0)) h
  | _ => .bad
end
end EV
set_option Elab.async false
set_option linter.all false
set_option autoImplicit false
set_option maxRecDepth 100000
namespace EV
open PySem PySem.Spec PyProof.Rows L2
inductive Ty where
  | non | bl | int | str | tup | lst | dct
  deriving DecidableEq
def Ty.name : Ty → String
  | .non => "NoneType" | .bl => "bool" | .int => "int" | .str => "str" | .tup => "tuple" | .lst => "list" | .dct => "dict"
def tyD (x : D) (h : AH) : Option Ty := match x with
  | .non => some .non | .bl _ => some .bl | .int _ => some .int | .str _ => some .str | .tup _ => some .tup | .fz _ => some .lst
  | .ref n => match h[n]? with | some (.lst _) => some .lst | some (.dct _) => some .dct | some (.dtt _) => some .dct | none => none
  | .exc _ _ _ => none
def isSub (t c : Ty) : Bool := decide (t = c) || (decide (t = .bl) && decide (c = .int))
theorem kit_ty (K : PySem.W.Frag) (t c : Ty) : PySem.W.kitOne K (.type t.name) (.type c.name) = some (isSub t c) := by
  cases t <;> cases c <;> (with_unfolding_all rfl)
section
variable {X : Cx}
inductive TyN (K : PySem.W.Frag) (H : Hp) : V → Ty → Prop where
  | non : TyN K H .non .non
  | bl (x : Bool) : TyN K H (.bl x) .bl
  | int (i : Int) : TyN K H (.int i) .int
  | str (x : Str) : TyN K H (.str x) .str
  | lst {a : Addr} {xs : List V} (e : SqL K H a xs) : TyN K H (.ref a) .lst
  | tup {a : Addr} {xs : List V} (e : SqT K H a xs) : TyN K H (.ref a) .tup
  | dK {a : Addr} {kvs : List (Key × V)} (e : H a = some (.dK kvs)) : TyN K H (.ref a) .dct
  | dT {a : Addr} {kvs : List (List Key × V)} (e : H a = some (.dT kvs)) : TyN K H (.ref a) .dct
def rIsi (K : PySem.W.Frag) (c : Ty) : List V → Hp → VK → Prop := fun xs H Q => ∃ x t, xs = [x, .ty c.name] ∧ TyN K H x t ∧ Q (.bl (isSub t c)) H
theorem call_isi (c : Ty) : CallR X (.builtin "isinstance") (rIsi X.K c) := by
  intro pins s σ H xs us Q I r h
  obtain ⟨x, t, rfl, ty, q⟩ := h
  obtain ⟨u, w', rfl, ru, rw'⟩ := vals2 r
  cases (show w' = Value.type c.name from rw')
  have e := kit_ty X.K t c
  have fin : ∀ tk, EP X pins σ Q (.bool (isSub t c)) { s with toks := tk } := fun tk => ⟨.bl _, H, I.tok tk, rfl, q⟩
  cases ty with
  | non => cases (show u = Value.none from ru); exact PySem.W.kia_one PySem.W.kitx_none I.kIn True.intro e (fun z => nomatch z) fin
  | bl y => cases (show u = Value.bool y from ru); exact PySem.W.kia_one PySem.W.kitx_bool I.kIn True.intro e (fun z => nomatch z) fin
  | int i => obtain ⟨t, q⟩ := (show ∃ t, u = Value.int i t from ru); cases q; exact PySem.W.kia_one PySem.W.kitx_int I.kIn True.intro e (fun z => nomatch z) fin
  | str y => obtain ⟨t, q⟩ := (show ∃ t, u = Value.str y t from ru); cases q; exact PySem.W.kia_one PySem.W.kitx_str I.kIn True.intro e (fun z => nomatch z) fin
  | @lst a xs ea =>
    cases (show u = Value.ref a from ru)
    obtain ⟨its, _, ⟨o, n, h1, h2, _⟩, _⟩ := I.list ea
    exact PySem.W.kia_one PySem.W.kitx_list I.kIn ⟨o, h1, h2⟩ e (fun z => nomatch z) fin
  | @tup a xs ea =>
    cases (show u = Value.ref a from ru)
    obtain ⟨its, _, ⟨o, h1, h2, _⟩, _⟩ := I.tuple ea
    exact PySem.W.kia_one PySem.W.kitx_tuple I.kIn ⟨o, h1, h2⟩ e (fun z => nomatch z) fin
  | @dK a kvs ea =>
    cases (show u = Value.ref a from ru)
    obtain ⟨_, _, vs, _, p⟩ := (show ObjOk X.prog X.w H s.heap a (.dK kvs) from I.hok a _ ea)
    obtain ⟨o, es, ep, h1, h2, _⟩ := p
    exact PySem.W.kia_one PySem.W.kitx_dict I.kIn ⟨o, h1, h2.1⟩ e (fun z => nomatch z) fin
  | @dT a kvs ea =>
    cases (show u = Value.ref a from ru)
    obtain ⟨_, _, vs, _, o, es, ep, h1, h2, _⟩ := (show ObjOk X.prog X.w H s.heap a (.dT kvs) from I.hok a _ ea)
    exact PySem.W.kia_one PySem.W.kitx_dict I.kIn ⟨o, h1, h2.1⟩ e (fun z => nomatch z) fin
theorem tyD_rel {K : PySem.W.Frag} {ρ : List Addr} {h : AH} {H : Hp} (rh : RH K ρ h H) {x : D} {v : V} {t : Ty} (e : tyD x h = some t) (r : RV K ρ H x v) : TyN K H v t := by
  cases r with
  | non => cases e; exact .non
  | bl b => cases e; exact .bl b
  | int b => cases e; exact .int b
  | str b => cases e; exact .str b
  | tup hs _ => cases e; exact .tup hs
  | fz hs _ => cases e; exact .lst hs.sq
  | exc _ _ => cases e
  | ref hr =>
    unfold tyD at e
    split at e <;> try (rename_i q; cases q; done)
    rename_i q0
    cases q0
    split at e
    · rename_i q
      cases e
      obtain ⟨ys, hy, _⟩ := rh.ob _ _ _ q hr
      exact .lst (SqL.of hy)
    · rename_i q
      cases e
      obtain ⟨ys, hy, _⟩ := rh.ob _ _ _ q hr
      exact .dK hy
    · rename_i q
      cases e
      obtain ⟨ys, hy, _⟩ := rh.ob _ _ _ q hr
      exact .dT hy
    · cases e
def eIsi (c : Ty) (f : EF) : EF := fun σ h => (f σ h).bind fun x h1 => match tyD x h1 with | some t => .ok (.bl (isSub t c)) h1 | none => .bad
theorem se_isi {e : Expr} {f : EF} {cn : Str} {p p2 pos : Pos} (c : Ty) (hm : X.mg "isinstance" = none) (hm2 : X.mg cn = none) (ha : SE X e f) (hb : bootBuiltins cn = some (.type c.name) := by decide +kernel) (hg : Gl X "isinstance" := by rfl) (hg2 : Gl X cn := by rfl) (hn : cn ≠ "__name__" := by decide +kernel) (hd : (cn == ("__debug__" : Str)) = false := by decide +kernel)
    (he : starEach [e, .Name cn p2] X.env = (false, eval e X.env) :: starEach [.Name cn p2] X.env := by rfl) (he2 : starEach [.Name cn p2] X.env = (false, eval (.Name cn p2) X.env) :: starEach [] X.env := by rfl) (hpl : (backTo pos (starEach [.Name cn p2] X.env)).any (·.1) = false := by rfl) : SE X (.Call (.Name "isinstance" p) [e, .Name cn p2] [] pos) (eIsi c f) :=
  ⟨PE.of (pe_callB (call_isi c) hg hm (by decide +kernel) (pa_cons ha.out (pa_cons (pe_bltn hg2 hm2 hb (v := .ty c.name) rfl hn hd) pa_nil he2) he) (by decide +kernel) (by decide +kernel) he hpl) fun σ H Q q => by
  obtain ⟨ρ, σa, h, v, h', rh, rs, e, k⟩ := q
  obtain ⟨x, h1, e1, e⟩ := bind_eq e
  refine ⟨ρ, σa, h, x, h1, rh, rs, e1, fun ρ1 x' H1 p1 rh1 rx => ?_⟩
  split at e
  · rename_i t et
    cases e
    exact ⟨x', t, rfl, tyD_rel rh1 et rx, k ρ1 _ H1 p1 rh1 (.bl _)⟩
  · cases e⟩
abbrev MF := D → List D → AH → R D
def isLst (x : D) (h : AH) : Bool := match x with | .ref n => (match h[n]? with | some (.lst _) => true | _ => false) | .fz _ => true | _ => false
theorem isLst_rel {K : PySem.W.Frag} {ρ : List Addr} {h : AH} {H : Hp} (rh : RH K ρ h H) {x : D} {v : V} (e : isLst x h = true) (r : RV K ρ H x v) : tyV K "list" v H := by
  cases r with
  | non => cases e
  | bl b => cases e
  | int b => cases e
  | str b => cases e
  | tup hs _ => cases e
  | fz hs _ => exact .inl ⟨rfl, _, hs.sq⟩
  | exc _ _ => cases e
  | ref hr =>
    simp only [isLst] at e
    split at e
    · rename_i q
      obtain ⟨ys, hy, _⟩ := rh.ob _ _ _ q hr
      exact .inl ⟨rfl, _, SqL.of hy⟩
    · cases e
def MtS (K : PySem.W.Frag) (o : MF) (r : V → List V → Hp → VK → Prop) : Prop := ∀ (ρ : List Addr) (h : AH) (H : Hp) (x : D) (x' : V) (xs : List D) (ys : List V) (v : D) (h' : AH) (Q : VK), RH K ρ h H → RV K ρ H x x' → RVs K ρ H xs ys → o x xs h = .ok v h' →
  (∀ ρ' z H', Ext K ρ H ρ' H' → RH K ρ' h' H' → RV K ρ' H' v z → Q z H') → r x' ys H Q
def eMt (o : MF) (f : EF) (g : AF) : EF := fun σ h => (f σ h).bind fun x h1 => if isLst x h1 = true then (g σ h1).bind fun xs h2 => o x xs h2 else .bad
theorem se_mt {o e : Expr} {es : List Expr} {f : EF} {g : AF} {m : MF} {r : V → List V → Hp → VK → Prop} {name : Str} {id : String} {apos cpos : Pos} (slot : Slot "list" name id) (hty : typeOf (.builtin id) = pure (.type "method_descriptor")) (hm : MtR X id r) (hs : MtS X.K m r) (ho : SE X o f) (ha : SA X (e :: es) g)
    (hbase : attributeBase o name X.env (eval o X.env) = eval o X.env := by rfl)
    (hfew : ((backTo cpos (starEach (e :: es) X.env)).all (fun x => !x.1) && (backToKw cpos (keywordEach [] X.env)).all (fun x => x.1.isSome)
      && decide ((e :: es).length + ([] : List Keyword).length + (if ([] : List Keyword).isEmpty then 0 else 1) < 30)) = true := by rfl)
    (hline : (apos.endLine == cpos.line) = true := by rfl) (hst : starEach (e :: es) X.env = (false, eval e X.env) :: starEach es X.env := by rfl) (hplain : (backTo cpos (starEach es X.env)).any (·.1) = false := by rfl) :
    SE X (.Call (.Attribute o name apos) (e :: es) [] cpos) (eMt m f g) :=
  ⟨PE.of (pe_bm PySem.F.plainAttrs_list slot hty hm ho.out ha.out hbase hfew hline hst hplain) fun σ H Q q => by
  obtain ⟨ρ, σa, h, v, h', rh, rs, e, k⟩ := q
  obtain ⟨x, h1, e1, e⟩ := bind_eq e
  split at e
  · rename_i hl
    obtain ⟨xs, h2, e2, e⟩ := bind_eq e
    exact ⟨ρ, σa, h, x, h1, rh, rs, e1, fun ρ1 x' H1 p1 rh1 rx => ⟨isLst_rel rh1 hl rx, ρ1, σa, h1, xs, h2, rh1, rs.up p1, e2, fun ρ2 ys H2 p2 rh2 rxs =>
      hs ρ2 h2 H2 x x' xs ys v h' Q rh2 (rx.up p2) rxs e fun ρ3 z H3 p3 rh3 rz => k ρ3 z H3 (p1.trans (p2.trans p3)) rh3 rz⟩⟩
  · cases e⟩
def mAppend : MF := fun x ys h => match x, ys with
  | .ref n, [y] => (match h[n]? with | some (.lst xs) => if xs.length < sizeLine then .ok .non (h.set n (.lst (xs ++ [y]))) else .bad | _ => .bad)
  | _, _ => .bad
theorem sp_append {K : PySem.W.Frag} : MtS K mAppend rAppend := by
  intro ρ h H x x' xs ys v h' Q rh rx rxs e k
  unfold mAppend at e
  split at e
  · split at e
    · rename_i q
      split at e
      · rename_i hl
        cases e
        cases rxs with
        | cons a b =>
          cases b
          cases rx with
          | ref hr =>
            obtain ⟨zs, hz, rz⟩ := rh.ob _ _ _ q hr
            have ext : ∀ u, Ext K ρ H ρ (upd H _ u) := fun u => Ext.upd (.inr (rh.mut hr))
            exact ⟨_, zs, _, rfl, rfl, hz, by rw [← rz.length]; exact hl, k ρ _ _ (ext _) (rh.set hr ⟨_, upd_same, (rz.app (.cons a .nil)).up (ext _)⟩) .non⟩
      · cases e
    · cases e
  · cases e
theorem se_append {o e : Expr} {f : EF} {g : AF} {apos cpos : Pos} (ho : SE X o f) (ha : SA X [e] g) (hbase : attributeBase o "append" X.env (eval o X.env) = eval o X.env := by rfl)
    (hfew : ((backTo cpos (starEach [e] X.env)).all (fun x => !x.1) && (backToKw cpos (keywordEach [] X.env)).all (fun x => x.1.isSome)
      && decide ([e].length + ([] : List Keyword).length + (if ([] : List Keyword).isEmpty then 0 else 1) < 30)) = true := by rfl)
    (hline : (apos.endLine == cpos.line) = true := by rfl) (hst : starEach [e] X.env = (false, eval e X.env) :: starEach [] X.env := by rfl) (hplain : (backTo cpos (starEach [] X.env)).any (·.1) = false := by rfl) :
    SE X (.Call (.Attribute o "append" apos) [e] [] cpos) (eMt mAppend f g) := se_mt PySem.F.slot_list_append PySem.F.type_list_append mt_append sp_append ho ha hbase hfew hline hst hplain
abbrev PFs := Fr → AH → R (List (D × D))
inductive RPs (K : PySem.W.Frag) (ρ : List Addr) (H : Hp) : List (D × D) → List (V × V) → Prop
  | nil : RPs K ρ H [] []
  | cons {a b : D} {x y : V} {ds : List (D × D)} {vs : List (V × V)} : RV K ρ H a x → RV K ρ H b y → RPs K ρ H ds vs → RPs K ρ H ((a, b) :: ds) ((x, y) :: vs)
structure SP' (X : Cx) (pos : Pos) (keys : List (Option Expr)) (values : List Expr) (f : PFs) : Prop where
  out : ∃ trs, PPs X pos keys values trs ∧ ∀ (ρ : List Addr) (σa : Fr) (h : AH) (σ : L2.St) (H : Hp) (ps : List (D × D)) (h' : AH) (Q : List (V × V) → Hp → Prop), RH X.K ρ h H → RS X.K ρ H σa σ → f σa h = .ok ps h' →
    (∀ ρ' vs H', Ext X.K ρ H ρ' H' → RH X.K ρ' h' H' → RPs X.K ρ' H' ps vs → Q vs H') → tPairs trs σ H Q
def eDict0 : EF := fun _ h => .ok (.ref h.length) (h ++ [.dct []])
theorem se_dict0 {pos : Pos} : SE X (.Dict [] [] pos) eDict0 := ⟨PE.of pe_dnewK fun σ H Q q => by
  obtain ⟨ρ, σa, h, v, h', rh, rs, e, k⟩ := q
  cases e
  intro p hpn
  exact k _ _ _ (Ext.new hpn) (rh.new hpn ⟨[], upd_same, .nil⟩) (ref_new rh _)⟩
end
mutual
def below (n : Nat) : D → Bool
  | .tup xs => belows n xs
  | .fz xs => belows n xs
  | .exc _ _ xs => belows n xs
  | .ref m => decide (m < n)
  | _ => true
def belows (n : Nat) : List D → Bool
  | [] => true
  | x :: xs => below n x && belows n xs
end
def belowO (n : Nat) : AO → Bool
  | .lst xs => belows n xs
  | .dct kvs => belows n (kvs.map (·.2))
  | .dtt kvs => belows n (kvs.map (·.2))
mutual
theorem RV.isBelow {K : PySem.W.Frag} {ρ : List Addr} {H : Hp} : ∀ {d : D} {v : V}, RV K ρ H d v → below ρ.length d = true
  | _, _, .non => rfl
  | _, _, .bl _ => rfl
  | _, _, .int _ => rfl
  | _, _, .str _ => rfl
  | _, _, .tup _ r => by simpa [EV.below] using RVs.isBelow r
  | _, _, .fz _ r => by simpa [EV.below] using RVs.isBelow r
  | _, _, .exc _ r => by simpa [EV.below] using RVs.isBelow r
  | _, _, .ref h => by simpa [EV.below] using (List.getElem?_eq_some_iff.mp h).1
theorem RVs.isBelow {K : PySem.W.Frag} {ρ : List Addr} {H : Hp} : ∀ {xs : List D} {ys : List V}, RVs K ρ H xs ys → belows ρ.length xs = true
  | _, _, .nil => rfl
  | _, _, .cons a b => by simp [EV.belows, RV.isBelow a, RVs.isBelow b]
end
mutual
theorem RV.down {K : PySem.W.Frag} {ρ : List Addr} {H : Hp} (n : Nat) : ∀ {d : D} {v : V}, RV K ρ H d v → EV.below n d = true → RV K (ρ.take n) H d v
  | _, _, .non, _ => .non
  | _, _, .bl b, _ => .bl b
  | _, _, .int i, _ => .int i
  | _, _, .str x, _ => .str x
  | _, _, .tup h r, e => .tup h (RVs.down n r (by simpa [EV.below] using e))
  | _, _, .fz h r, e => .fz h (RVs.down n r (by simpa [EV.below] using e))
  | _, _, .exc h r, e => .exc h (RVs.down n r (by simpa [EV.below] using e))
  | _, _, .ref h, e => .ref (by rw [List.getElem?_take_of_lt (by simpa [EV.below] using e)]; exact h)
theorem RVs.down {K : PySem.W.Frag} {ρ : List Addr} {H : Hp} (n : Nat) : ∀ {xs : List D} {ys : List V}, RVs K ρ H xs ys → EV.belows n xs = true → RVs K (ρ.take n) H xs ys
  | _, _, .nil, _ => .nil
  | _, _, .cons a b, e => by
    simp only [EV.belows, Bool.and_eq_true] at e
    exact .cons (RV.down n a e.1) (RVs.down n b e.2)
end
section
variable {K : PySem.W.Frag} {ρ ρ' : List Addr} {h h' : AH} {H H' : Hp}
theorem RK.down {κ : Type} (n : Nat) {xs : List (κ × D)} {ys : List (κ × V)} (r : RK K ρ H xs ys) (e : EV.belows n (xs.map (·.2)) = true) : RK K (ρ.take n) H xs ys := by
  induction r with
  | nil => exact .nil
  | cons a _ ih =>
    simp only [List.map_cons, EV.belows, Bool.and_eq_true] at e
    exact .cons (a.down n e.1) (ih e.2)
theorem RK.isBelow {κ : Type} {xs : List (κ × D)} {ys : List (κ × V)} (r : RK K ρ H xs ys) : EV.belows ρ.length (xs.map (·.2)) = true := by
  induction r with
  | nil => rfl
  | cons a _ ih => simp [EV.belows, RV.isBelow a, ih]
theorem RO.isBelow {o : AO} {a : Addr} (r : RO K ρ H o a) : belowO ρ.length o = true := by
  cases o with
  | lst xs => obtain ⟨ys, _, h2⟩ := r; exact h2.isBelow
  | dct kvs => obtain ⟨ys, _, h2⟩ := r; exact h2.isBelow
  | dtt kvs => obtain ⟨ys, _, h2⟩ := r; exact h2.isBelow
theorem RO.down (n : Nat) {o : AO} {a : Addr} (r : RO K ρ H o a) (e : belowO n o = true) : RO K (ρ.take n) H o a := by
  cases o with
  | lst xs => obtain ⟨ys, h1, h2⟩ := r; exact ⟨ys, h1, h2.down n e⟩
  | dct kvs => obtain ⟨ys, h1, h2⟩ := r; exact ⟨ys, h1, h2.down n e⟩
  | dtt kvs => obtain ⟨ys, h1, h2⟩ := r; exact ⟨ys, h1, h2.down n e⟩
def Clean (h h' : AH) (v : D) : Prop := below h.length v = true ∧ ∀ i, i < h.length → h'[i]? = h[i]? ∨ ∃ o, h'[i]? = some o ∧ belowO h.length o = true
open Classical in
noncomputable def cut (h h' : AH) (v : D) : AH := if Clean h h' v then h'.take h.length else h'
theorem cut_ok {v : D} {y : V} (rh : RH K ρ h H) (p : Ext K ρ H ρ' H') (rh' : RH K ρ' h' H') (rv : RV K ρ' H' v y) : ∃ ρ'', Ext K ρ H ρ'' H' ∧ RH K ρ'' (cut h h' v) H' ∧ RV K ρ'' H' v y := by
  unfold cut
  split
  · rename_i c
    have hl : ∀ (n : Nat) (a : Addr), (ρ'.take h.length)[n]? = some a → n < h.length ∧ ρ'[n]? = some a := fun n a e => by
      have := (List.getElem?_eq_some_iff.mp e).1
      rw [List.length_take] at this
      have hn : n < h.length := by omega
      rw [List.getElem?_take_of_lt hn] at e
      exact ⟨hn, e⟩
    refine ⟨ρ'.take h.length, ⟨fun n a e => ?_, p.tup, p.fz, p.exc⟩, ⟨by simp [rh'.len], fun n m a e1 e2 => rh'.nd n m a (hl n a e1).2 (hl m a e2).2, fun n o a e1 e2 => ?_⟩, rv.down _ c.1⟩
    · have hn : n < h.length := by rw [← rh.len]; exact (List.getElem?_eq_some_iff.mp e).1
      rw [List.getElem?_take_of_lt hn]
      exact p.pre n a e
    · obtain ⟨hn, e3⟩ := hl n a e2
      rw [List.getElem?_take_of_lt hn] at e1
      refine (rh'.ob n o a e1 e3).down _ ?_
      rcases c.2 n hn with q | ⟨o', q1, q2⟩
      · rw [e1] at q
        obtain ⟨b, _, r⟩ := rh.at q.symm
        rw [← rh.len]
        exact r.isBelow
      · rw [e1] at q1; cases q1; exact q2
  · exact ⟨ρ', p, rh', rv⟩
end
def startD (n : Nat) (ds : List D) : Fr := ds.map some ++ List.replicate (n - ds.length) none
noncomputable def mkFn (np n : Nat) (b : SF) : BF := fun ds h => if ds.length = np then (match b (startD n ds) h with
  | .ok (.ret v) h' => .ok v (cut h h' v)
  | .ok (.next _) h' => .ok .non (cut h h' .non)
  | .ok (.brk _) _ => .bad
  | .ok (.cont _) _ => .bad
  | .ex e h' => .ex e h'
  | .bad => .bad) else .bad
theorem mkFn_len {np n : Nat} {b : SF} {ds : List D} {h : AH} {v : D} {h' : AH} (e : mkFn np n b ds h = .ok v h') : ds.length = np := by
  unfold mkFn at e
  split at e
  · rename_i q; exact q
  · cases e
def spF (K : PySem.W.Frag) (n : Nat) (F : BF) : Sp := fun vs H Q _ => ∃ ρ ds h v h', RH K ρ h H ∧ RVs K ρ H ds vs ∧ ds.length = n ∧ F ds h = .ok v h' ∧ ∀ ρ' y H', Ext K ρ H ρ' H' → RH K ρ' h' H' → RV K ρ' H' v y → Q y H'
theorem RS.start {K : PySem.W.Frag} {ρ : List Addr} {H : Hp} {N : List Str} {ds : List D} {vs : List V} (r : RVs K ρ H ds vs) : RS K ρ H (startD N.length ds) (L2.start N vs) := by
  refine ⟨by simp [startD, L2.start, r.length], fun i d e => ?_⟩
  unfold startD at e
  unfold L2.start
  by_cases hi : i < ds.length
  · rw [List.getElem?_append_left (by simpa using hi), List.getElem?_map] at e
    rw [List.getElem?_append_left (by rw [List.length_map, ← r.length]; exact hi), List.getElem?_map]
    cases q : ds[i]? with
    | none => rw [q] at e; cases e
    | some x =>
      rw [q] at e
      cases e
      obtain ⟨y, h1, h2⟩ := r.get q
      exact ⟨y, by rw [h1]; rfl, h2⟩
  · rw [List.getElem?_append_right (by simpa using hi), List.getElem?_replicate] at e
    split at e <;> cases e
structure FunA (K : PySem.W.Frag) (x qual : Str) (st : Stmt) (dV : Value) (f : Addr) (fd : FuncData) : Prop where
  ex : ∃ (oc : Value) (od : Option Addr) (kV doc pm : Value) (an : Option Addr) (cdv ct : Value) (osl : Array (Option Value)),
    fd = PySem.W.fnOf x qual (defArgs st) (defBody st) (defScope st) dV kV doc pm an cdv ct ∧ K.lookup f = some ⟨oc, od, .func fd, osl⟩ ∧ PySem.W.codeIn K cdv qual = true
  kp : PySem.W.keepIn K (.ref f) = true
section
variable {P : Program} {w : World} {K : PySem.W.Frag} {mg : Str → Option Value} {base : Heap}
theorem fn_ok {x qual : Str} {st : Stmt} {dV : Value} {f : Addr} {fd : FuncData} {N ps : List Str} {k : Nat} {b : SF} (F : FunA K x qual st dV f fd) (S : FnScope N ps (defScope st))
    (hb : ∀ (cdv : Value) (A : Around) (outer : List Env) (s : Shared) (H : Hp) (E : XK), Room k (A.deeper (envOfC qual (defScope st) s.heap.objs.size f cdv)) → SSs (cxOf CX0 P w K mg base N qual (defScope st) f cdv A outer s H E).nox (defBody st) b) :
    FnOk P w K mg base CX0 (k + 1) f fd ps (spF K ps.length (mkFn ps.length N.length b)) := by
  obtain ⟨oc, od, kV, doc, pm, an, cdv, ct, osl, rfl, lk, hcd⟩ := F.ex
  refine fn_of lk hcd S (fun vs H Q E q => ?_) fun A outer s H vs Q E hr hsp => ?_
  · obtain ⟨ρ, ds, h, v, h', rh, r, hl, _⟩ := q
    rw [← r.length]; exact hl
  · refine ⟨_, (hb cdv A outer s H E hr).out.nox, ?_⟩
    obtain ⟨ρ, ds, h, v, h', rh, r, hl, e, k⟩ := hsp
    unfold mkFn at e
    rw [if_pos hl] at e
    cases q : b (startD N.length ds) h with
    | bad => rw [q] at e; cases e
    | ex x y => rw [q] at e; cases e
    | ok fl h1 =>
      rw [q] at e
      refine ⟨ρ, _, h, fl, h1, rh, RS.start r, q, fun ρ1 H1 p1 rh1 => ?_⟩
      cases fl with
      | brk _ => cases e
      | cont _ => cases e
      | next σ1 =>
        cases e
        intro σ' _
        obtain ⟨ρ2, a, b, c⟩ := cut_ok rh p1 rh1 (RV.non)
        exact k ρ2 _ H1 a b c
      | ret v =>
        cases e
        intro y ry
        obtain ⟨ρ2, a, b, c⟩ := cut_ok rh p1 rh1 ry
        exact k ρ2 _ H1 a b c
structure HasFn (P : Program) (w : World) (K : PySem.W.Frag) (mg : Str → Option Value) (base : Heap) (k : Nat) (x : Str) (st : Stmt) (dV : Value) (ps : List Str) (F : BF) : Prop where
  ex : ∃ (f : Addr) (fd : FuncData), mg x = some (.ref f) ∧ FunA K x x st dV f fd ∧ FnOk P w K mg base CX0 k f fd ps (spF K ps.length F)
  len : ∀ ds h v h', F ds h = .ok v h' → ds.length = ps.length
theorem HasFn.mono {j k : Nat} {x : Str} {st : Stmt} {dV : Value} {ps : List Str} {F : BF} (h : HasFn P w K mg base j x st dV ps F) (l : j ≤ k) : HasFn P w K mg base k x st dV ps F := by
  obtain ⟨f, fd, a, b, c⟩ := h.ex
  exact ⟨⟨f, fd, a, b, c.mono l⟩, h.len⟩
end
section
variable {X : Cx} {k : Nat} {x : Str} {st : Stmt} {dV : Value} {ps : List Str} {F : BF} {e : Expr} {es : List Expr} {f g : AF} {p pos : Pos} {kws : List Keyword}
theorem se_call (HF : HasFn X.prog X.w X.K X.mg X.base k x st dV ps F) (hr : Room k X.A) (ha : SA X (e :: es) f)
    (hb : ∀ (kV doc pm : Value) (an : Option Addr) (cdv ct : Value) (us : List Value), us.length = ps.length → ∀ s : Shared, X.K.In s.heap → BindsTo s (PySem.W.fnOf x x (defArgs st) (defBody st) (defScope st) dV kV doc pm an cdv ct) ⟨us, []⟩ (ps.zip us))
    (hg : Gl X x := by rfl) (hdb : (x == ("__debug__" : Str)) = false := by decide +kernel) (he : starEach (e :: es) X.env = (false, eval e X.env) :: starEach es X.env := by rfl) (hpl : (backTo pos (starEach es X.env)).any (·.1) = false := by rfl) :
    SE X (.Call (.Name x p) (e :: es) [] pos) (eApp F f) := by
  obtain ⟨a, fd, hm, FA, ok⟩ := HF.ex
  obtain ⟨oc, od, kV, doc, pm, an, cdv, ct, osl, rfl, lk, hcd⟩ := FA.ex
  refine ⟨PE.of (pe_call (ds := []) (dvs := []) (E := E0) ok hr hg hm FA.kp (fun s us hK hl => ?_) .nil pass0 ha.out hdb he hpl) fun σ H Q q => ?_⟩
  · rw [List.append_nil] at hl ⊢
    exact hb kV doc pm an cdv ct us hl s hK
  · obtain ⟨ρ, σa, h, v, h', rh, rs, e, k⟩ := q
    obtain ⟨xs, h1, e1, e⟩ := bind_eq e
    refine ⟨ρ, σa, h, xs, h1, rh, rs, e1, fun ρ1 ys H1 p1 rh1 rx => ?_⟩
    show spF X.K ps.length F (ys ++ []) H1 Q E0
    rw [List.append_nil]
    exact ⟨ρ1, xs, h1, v, h', rh1, rx, HF.len xs h1 v h' e, e, fun ρ2 z H2 p2 rh2 rz => k ρ2 z H2 (p1.trans p2) rh2 rz⟩
def sel {α : Type} (is : List Nat) (xs : List α) : List α := is.filterMap fun i => xs[i]?
theorem sel_rel {K : PySem.W.Frag} {ρ : List Addr} {H : Hp} {xs : List D} {ys : List V} (r : RVs K ρ H xs ys) : ∀ is : List Nat, RVs K ρ H (sel is xs) (sel is ys)
  | [] => .nil
  | i :: is => by
    unfold sel
    rw [List.filterMap_cons, List.filterMap_cons]
    cases q : xs[i]? with
    | none =>
      have : ys[i]? = none := by rw [List.getElem?_eq_none_iff] at q ⊢; rw [← r.length]; exact q
      rw [this]
      exact sel_rel r is
    | some x =>
      obtain ⟨y, h1, h2⟩ := r.get q
      rw [h1]
      exact .cons h2 (sel_rel r is)
theorem sel_vals {xs : List V} {us : List Value} (r : Vals xs us) : ∀ is : List Nat, Vals (sel is xs) (sel is us)
  | [] => .nil
  | i :: is => by
    unfold sel
    rw [List.filterMap_cons, List.filterMap_cons]
    cases q : xs[i]? with
    | none =>
      rw [Vals.none_of r q]
      exact sel_vals r is
    | some x =>
      obtain ⟨y, h1, h2⟩ := r.get q
      rw [h1]
      exact .cons h2 (sel_vals r is)
structure SK (X : Cx) (kws : List Keyword) (f : AF) : Prop where
  out : PK X kws (tA X.K f)
theorem PK.of {t t' : TA} (h : PK X kws t) (i : ∀ σ H Q, t' σ H Q → t σ H Q) : PK X kws t' := fun pos pins s σ H Q I q => h pos pins s σ H Q I (i σ H Q q)
theorem sk_nil : SK X [] aNil := ⟨PK.of pk_nil fun σ H Q q => by
  obtain ⟨ρ, σa, h, v, h', rh, rs, e, k⟩ := q
  cases e
  exact k ρ _ H Ext.refl rh .nil⟩
theorem sk_cons {e : Expr} {nm : Option Str} {kpos : Pos} {f : EF} {g : AF} (ha : SE X e f) (hr : SK X kws g) : SK X (⟨nm, e, kpos⟩ :: kws) (aCons f g) := ⟨PK.of (pk_cons ha.out hr.out) fun σ H Q q => by
  obtain ⟨ρ, σa, h, v, h', rh, rs, e, k⟩ := q
  obtain ⟨x, h1, e1, e⟩ := bind_eq e
  obtain ⟨xs, h2, e2, e⟩ := bind_eq e
  cases e
  exact ⟨ρ, σa, h, x, h1, rh, rs, e1, fun ρ1 x' H1 p1 rh1 rx => ⟨ρ1, σa, h1, xs, h', rh1, rs.up p1, e2, fun ρ2 ys H2 p2 rh2 ry => k ρ2 _ H2 (p1.trans p2) rh2 (.cons (rx.up p2) ry)⟩⟩⟩
def eAppK (F : BF) (is : List Nat) (a b : Nat) (f g : AF) : EF := fun σ h => (f σ h).bind fun xs h1 => (g σ h1).bind fun ys h2 => if xs.length = a ∧ ys.length = b then F (sel is (xs ++ ys)) h2 else .bad
theorem run_k {fd : FuncData} {a : Addr} {pins : List (Addr × Obj)} {σ : L2.St} {H : Hp} {s : Shared} {Q : VK} {us ws : List Value} {vs zs : List V} {ks : List Str} {is : List Nat} (ok : FnOk X.prog X.w X.K X.mg X.base CX0 k a fd ps (spF X.K ps.length F)) (hr : Room k X.A)
    (hb : BindsTo s fd ⟨us, ks.zip ws⟩ (ps.zip (sel is (us ++ ws)))) (I : Inv X pins σ H s) (r : Vals vs us) (rz : Vals zs ws) (h : spF X.K ps.length F (sel is (vs ++ zs)) H Q E0) : wpAny (model X.prog X.w) X.A (call (.ref a) us (ks.zip ws)) (EP X pins σ Q) X.xe s := by
  have r2 := sel_vals (r.append rz) is
  refine wpAny_call (codeAny_mono (ok.run X.A X.stack s H ⟨us, ks.zip ws⟩ _ _ Q E0 hr I.env0 hb r2 h) fun r s' hq => ?_)
  cases r with
  | error e => exact hq.elim
  | ok fl =>
    cases fl with
    | ret u => exact I.after hq
    | next => exact False.elim hq
    | brk => exact False.elim hq
    | cont => exact False.elim hq
theorem se_callK0 (is : List Nat) (b : Nat) (ks : List Str) (HF : HasFn X.prog X.w X.K X.mg X.base k x st dV ps F) (hr : Room k X.A) (hkw : SK X kws g)
    (hb : ∀ (kV doc pm : Value) (an : Option Addr) (cdv ct : Value) (ws : List Value), ws.length = b → ∀ s : Shared, X.K.In s.heap → BindsTo s (PySem.W.fnOf x x (defArgs st) (defBody st) (defScope st) dV kV doc pm an cdv ct) ⟨[], ks.zip ws⟩ (ps.zip (sel is ws)))
    (hg : Gl X x := by rfl) (hall : (backToKw pos (keywordEach kws X.env)).all (·.1.isSome) = true := by rfl) (hks : (backToKw pos (keywordEach kws X.env)).filterMap (·.1) = ks := by rfl)
    (hdb : (x == ("__debug__" : Str)) = false := by decide +kernel)
    (hpl : ((backTo pos (starEach [] X.env)).any (·.1) || (backToKw pos (keywordEach kws X.env)).any (·.1.isNone)) = false := by rfl) :
    SE X (.Call (.Name x p) [] kws pos) (eAppK F is 0 b aNil g) := by
  obtain ⟨a', fd, hm, FA, ok⟩ := HF.ex
  obtain ⟨oc, od, kV, doc, pm, an, cdv, ct, osl, rfl, lk, hcd⟩ := FA.ex
  refine ⟨fun pins s σ H Q I q => ?_⟩
  obtain ⟨ρ, σa, h, v, h', rh, rs, e, k⟩ := q
  obtain ⟨xs, h1, e1, e⟩ := bind_eq e
  cases e1
  obtain ⟨ys, h2, e2, e3⟩ := bind_eq e
  split at e3
  · rename_i c
    refine wpAny_Call_Name_kw (ld_glob I hg hm ?_ hdb)
    refine PySem.W.callWith_KW0 (h₀ := X.base) I.ok.mod.kin FA.kp hall ?_ hpl
    refine thn (hkw.out pos pins s σ H (fun zs H2 => ∃ ρ2, Ext X.K ρ H ρ2 H2 ∧ RH X.K ρ2 h2 H2 ∧ RVs X.K ρ2 H2 ys zs) I ⟨ρ, σa, h, ys, h2, rh, rs, e2, fun ρ2 vs H2 p2 rh2 ry => ⟨ρ2, p2, rh2, ry⟩⟩) fun ws s2 ⟨zs, H2, I2, rz, ρ2, p2, rh2, ry⟩ => ⟨I2.kIn, ?_⟩
    rw [hks]
    refine run_k (us := []) (vs := []) ok hr (hb kV doc pm an cdv ct ws ?_ s2 I2.kIn) I2 .nil rz ⟨ρ2, _, h2, v, h', rh2, sel_rel ry is, HF.len _ _ _ _ e3, e3, fun ρ3 z H3 p3 rh3 rz3 => k ρ3 z H3 (p2.trans p3) rh3 rz3⟩
    rw [← rz.length, ← ry.length]; exact c.2
  · cases e3
end
end EV
namespace EV
open PySem PySem.Spec PyProof.Rows L2
def mInt (i : Nat) : Fr → Nat := fun σ => match σ[i]? with | some (some (.int z)) => z.natAbs + 1 | _ => 0
theorem spF_law {K : PySem.W.Frag} {H : Hp} {a : Addr} {ns : List Int} {F : BF} (hl : ns.length ≤ 63) (hO : Only H) (hS : SqL K H a (ns.map V.int)) (hF : ∃ h', F [.fz (ns.map D.int)] [] = .ok (.bl true) h') : spF K 1 F [.ref a] H (fun v _ => v = .bl true) fun _ _ _ => False := by
  obtain ⟨h', e⟩ := hF
  have hz : SqF K H a (ns.map V.int) := by
    rcases hS with (h | ⟨o, h⟩) | h
    · rcases hO a with q | ⟨o, xs, q⟩
      · rw [h] at q; cases q
      · rw [h] at q; cases q
    · exact .inl ⟨o, h⟩
    · exact .inr h
  exact ⟨[], [.fz (ns.map D.int)], [], .bl true, h', RH.nil, .cons (.fz hz (RVs.ints ns)) .nil, rfl, e, fun ρ' y H' _ _ r => by cases r; rfl⟩
end EV
set_option Elab.async false
set_option linter.all false
set_option autoImplicit false
set_option maxRecDepth 100000
namespace EV
open PySem PySem.Spec PyProof.Rows L2
section
variable {X : Cx}
end
section
variable {prog : Program} {w : World} {A : Around} {E : Value → Shared → Prop} {s : Shared}
theorem draw_list {it t : Addr} {items : Array Value} (hne : t ≠ it) : ∀ (n i : Nat) (s : Shared) (Q : List Value → Shared → Prop), s.heap.IsListIter it t i → s.heap.IsList t items → i + n ≤ items.size →
    (∀ h', h'.IsListIter it t (i + n) → Heap.SameBut it s.heap h' → Q ((items.toList.drop i).take n) { s with heap := h' }) → wpAny (model prog w) A (draw (.ref it) n) Q E s
  | 0, i, s, Q, hit, _, _, hQ => by
    show wpAny _ _ (pure []) Q E s
    exact wpAny_pure (by simpa using hQ s.heap hit (Heap.SameBut.refl ..))
  | n + 1, i, s, Q, hit, ht, hle, hQ => by
    have hlt : i < items.size := by omega
    show wpAny _ _ (pyNext (.ref it) >>= _) Q E s
    refine wpAny_bind (wpAny_pyNext_list_item hit ht (x := items[i]) (by simp [hlt]) fun h₁ hit₁ hs₁ => ?_)
    refine wpAny_bind (wpAny_holding (draw_list hne n (i + 1) _ _ hit₁ (ht.extBut hs₁.extBut hne) (by omega) fun h₂ hit₂ hs₂ => wpAny_pure ?_))
    have hd : items.toList.drop i = items[i] :: items.toList.drop (i + 1) := by simp [List.drop_eq_getElem_cons, hlt]
    have := hQ h₂ (by rw [show i + (n + 1) = i + 1 + n by omega]; exact hit₂) (hs₁.trans hs₂)
    rw [hd, List.take_succ_cons] at this
    exact this
theorem unpackItems_list {t : Addr} {items : Array Value} {Q : List Value → Shared → Prop} (hh : A.handled = none) (ht : s.heap.IsList t items)
    (hQ : ∀ h', Heap.ExtBut s.heap.objs.size s.heap h' → Q items.toList { s with heap := h' }) : wpAny (model prog w) A (unpackItems (.ref t) items.size none) Q E s := by
  have hlt : t ≠ s.heap.objs.size := by obtain ⟨o, ho, _⟩ := ht; exact Nat.ne_of_lt (Heap.lt_size ho)
  unfold unpackItems
  refine wpAny_bind ?_
  · unfold notIterableAtAll
    refine wpAny_bind (wpAny_specialOf ht.typeIs slot_list_iter.lookup ?_)
    refine wpAny_pure ?_
    simp only [Bool.false_eq_true, if_false]
    refine wpAny_bind (wpAny_holding (wpAny_pyIter_list ht ?_))
    refine wpAny_bind (wpAny_holding (draw_list hlt items.size 0 _ _ ⟨_, Heap.get?_push_size _ rfl, rfl, rfl⟩ (ht.push _) (by omega) fun h₁ hit₁ hs₁ => ?_))
    have hall : List.take items.size (List.drop 0 items.toList) = items.toList := by
      rw [List.drop_zero]; exact List.take_of_length_le (by simp)
    rw [hall]
    rw [if_neg (by simp)]
    have ht₁ : h₁.IsList t items := (ht.push _).extBut hs₁.extBut hlt
    refine wpAny_bind (wpAny_holding (wpAny_pyNext_list_end hh hit₁ ht₁ (by simp) fun h₂ he₂ => ?_))
    simp only [Option.isSome_none, Bool.false_eq_true, if_false]
    refine wpAny_pure (hQ h₂ fun b o hb e => he₂ b o hb (hs₁.extBut b o hb (Heap.get?_push_of_some _ e)))
theorem assign_Tuple_list {env : Env} {elts : List Expr} {x1} {pos : Pos} {t : Addr} {items : Array Value} {Q : Unit → Shared → Prop} (hh : A.handled = none) (ht : s.heap.IsList t items)
    (hn : (assignEach elts env).length = items.size) (hstar : (assignEach elts env).findIdx? (·.1) = none)
    (h : ∀ h', Heap.ExtBut s.heap.objs.size s.heap h' → wpAny (model prog w) A (assignInOrder ((assignEach elts env).map (·.2)) items.toList) Q E { s with heap := h' }) :
    wpAny (model prog w) A (assign (.Tuple elts x1 pos) env (.ref t)) Q E s := by
  rw [assign_Tuple]
  refine wpAny_bind (wpAny_standAt ?_)
  unfold unpack
  rw [hn, hstar]
  exact wpAny_bind (wpAny_holding (unpackItems_list hh ht h))
end
section
variable {X : Cx}
def gTupL (K : PySem.W.Frag) (n : Nat) (t : TGs) : TG := fun v σ H Q => ∃ a xs, v = .ref a ∧ SqL K H a xs ∧ xs.length = n ∧ t xs σ H Q
theorem pg_tupL {es : List Expr} {k : Nat} {t : TGs} {n : Nat} {pos : Pos} (hc : X.calm = true) (h : PGs X es t)
    (hn : (assignEach es X.env).length = n := by rfl) (hst : (assignEach es X.env).findIdx? (·.1) = none := by rfl) : PG X (.Tuple es k pos) (gTupL X.K n t) := by
  intro pins s σ H v u Q I r hw
  obtain ⟨a, xs, e1, hq, hl, hw⟩ := hw
  subst e1
  cases r
  obtain ⟨its, rv, ht, hz⟩ := I.list hq
  refine assign_Tuple_list (I.ok.hd hc) ht.isList (by simp [hn, ← hl, rv.length]) hst fun h' hx => ?_
  have I1 : Inv X pins σ H { s with heap := h' } := I.kept (t' := s.toks) fun b o e => hx b o (Nat.ne_of_lt (Heap.lt_size e)) e
  exact h pins _ σ H xs _ Q I1 (by simpa using rv) hw
def gSeq (n : Nat) (g : GFs) : GF := fun d σ h => match seqOf d h with | some xs => if xs.length = n then g xs σ h else .bad | none => .bad
theorem sg_seq {es : List Expr} {k : Nat} {g : GFs} {n : Nat} {vs : List Nat} {pos : Pos} (hc : X.calm = true) (h : SGs X es vs g) (hn : (assignEach es X.env).length = n := by rfl) (hst : (assignEach es X.env).findIdx? (·.1) = none := by rfl) : SG X (.Tuple es k pos) vs (gSeq n g) :=
  ⟨fun pins s σ H v u Q I r q => by
  obtain ⟨ρ, σa, h0, d, σ', h', rh, rs, rv, e, kk⟩ := q
  unfold gSeq at e
  split at e
  · rename_i xs qs
    split at e
    · rename_i hl
      obtain ⟨p, ys, e1, hs, rr⟩ := seq_rel rh qs rv
      rcases hs with hs | hs
      · exact pg_tupL hc h.out hn hst pins s σ H v u Q I r ⟨p, ys, e1, hs, by rw [← rr.length]; exact hl, ρ, σa, h0, xs, σ', h', rh, rs, rr, e, kk⟩
      · exact pg_tup hc h.out hn hst pins s σ H v u Q I r ⟨p, ys, e1, hs, by rw [← rr.length]; exact hl, ρ, σa, h0, xs, σ', h', rh, rs, rr, e, kk⟩
    · cases e
  · cases e⟩
end
end EV
set_option Elab.async false
set_option linter.all false
set_option autoImplicit false
set_option maxRecDepth 100000
namespace EV
open PySem PySem.Spec PyProof.Rows L2
theorem ObjOk.there {P : Program} {w : World} {H : Hp} {h : Heap} {a : Addr} {o : HO} (x : ObjOk P w H h a o) : ∃ ob, h.get? a = some ob := by
  cases o with
  | lst xs => obtain ⟨_, _, _, _, e⟩ := x; exact ⟨_, e⟩
  | tup xs => obtain ⟨_, _, _, ⟨ob, e, _⟩, _⟩ := x; exact ⟨_, e⟩
  | dK kvs => obtain ⟨_, _, _, _, o, _, _, e, _⟩ := x; exact ⟨_, e⟩
  | dT kvs => obtain ⟨_, _, _, _, o, _, _, e, _⟩ := x; exact ⟨_, e⟩
  | set S n => obtain ⟨o, _, _, _, e, _⟩ := x; exact ⟨_, e⟩
  | ins C dx fs => obtain ⟨_, _, _, e, _⟩ := x; exact ⟨_, e⟩
  | own y => exact x
  | xd fs => obtain ⟨_, ⟨o, _, _, e, _⟩, _⟩ := x; exact ⟨_, e⟩
  | rng lo hi => obtain ⟨_, _, _, e⟩ := x; exact ⟨_, e⟩
  | frz ob u => obtain ⟨e, _⟩ := x; exact ⟨_, e⟩
  | tbl ps => exact ⟨_, x⟩
  | met f y => exact ⟨_, x⟩
  | ext φ => exact x.2.1
structure Away (P : Program) (w : World) (fs : List Addr) (H : Hp) (hs : Heap) (H' : Hp) (e T : Addr) (h : Heap) : Prop where
  un : Un fs [] H H' hs h
  hok : HOk P w H' h
  e0 : hs.get? e = none
  T0 : hs.get? T = none
  He : H' e = none
  HT : H' T = none
def Tr (e T : Addr) (cls : Value) (h : Heap) : Prop :=
  ∃ a0 oe vs oT ts, h.get? e = some oe ∧ oe.cls = cls ∧ vs[0]? = some a0 ∧ oe.data = .fields vs ∧ vs[1]? = some (.ref T) ∧ T ≠ e ∧ h.get? T = some oT ∧ oT.data = .fields ts ∧ ts[3]? = some .none
section
variable {P : Program} {w : World} {fs as fr : List Addr} {H H' : Hp} {hs h h' : Heap} {e T T' : Addr} {cls : Value} {l : List Env} {B : Heap}
theorem step_away (un : Un fs [] H H' hs h) (hok : HOk P w H' h) (keep : ∀ b o, h.get? b = some o → b ∉ as → b ∉ fr → h'.get? b = some o)
    (slots : ∀ b o, b ∈ fr → h.get? b = some o → ∃ sl, h'.get? b = some { o with slots := sl }) (has : ∀ b ∈ as, hs.get? b = none ∧ H' b = none) (hfr : ∀ b ∈ fr, (b ∈ fs ∨ hs.get? b = none) ∧ H' b = none) :
    Un fs [] H H' hs h' ∧ HOk P w H' h' := by
  have nas : ∀ b o, hs.get? b = some o → b ∉ as := fun b o q z => by rw [(has b z).1] at q; cases q
  have tk : ∀ b u, H' b = some u → b ∉ as ∧ b ∉ fr := fun b u q => ⟨fun z => by (rw [(has b z).2] at q; cases q), fun z => by (rw [(hfr b z).2] at q; cases q)⟩
  refine ⟨⟨fun b o q n hb hx => ?_, fun b o q n hb hx => ?_, un.free, fun b o q hx => ?_, un.tups, un.frzs, un.tbls⟩, fun a o q => ?_⟩
  · refine keep b o (un.keep b o q n hb hx) (nas b o q) fun z => ?_
    rcases (hfr b z).1 with y | y
    · exact hb y
    · rw [y] at q; cases q
  · obtain ⟨sl, q1⟩ := un.slot b o q n hb hx
    by_cases z : b ∈ fr
    · obtain ⟨sl2, q2⟩ := slots b _ z q1
      exact ⟨sl2, q2⟩
    · exact ⟨sl, keep b _ q1 (nas b o q) z⟩
  · obtain ⟨o', q1⟩ := un.there b o q hx
    by_cases z : b ∈ fr
    · obtain ⟨sl2, q2⟩ := slots b _ z q1
      exact ⟨_, q2⟩
    · exact ⟨o', keep b _ q1 (nas b o q) z⟩
  · refine (hok a o q).stay (fun b u hb q1 => ?_) (fun _ q => q) fun _ _ q => q
    rcases hb with rfl | hb
    · exact keep b u q1 (tk b o q).1 (tk b o q).2
    · exact keep b u q1 (tk b _ hb).1 (tk b _ hb).2
theorem entry_new (un : Un fs [] H H' hs h) (hok : HOk P w H' h) (has : ∀ b ∈ as, hs.get? b = none ∧ H' b = none) (hT : ∀ o, h.get? T' = some o → T' ∈ as) : hs.get? T' = none ∧ H' T' = none := by
  constructor
  · cases q : hs.get? T' with
    | none => rfl
    | some o =>
      obtain ⟨o', q'⟩ := un.there _ o q (by simp)
      have := (has _ (hT o' q')).1
      rw [q] at this; cases this
  · cases q : H' T' with
    | none => rfl
    | some o =>
      obtain ⟨o', q'⟩ := ObjOk.there (hok _ _ q)
      have := (has _ (hT o' q')).2
      rw [q] at this; cases this
theorem fly_of (t : Tr e T cls h) (ff : h.FunFrames B l) : ∃ a0, Heap.FlyingW (PySem.W.hideAll h (e :: T :: frs l)) l e cls a0 h := by
  obtain ⟨a0, oe, vs, oT, ts, q1, q2, q3, q4, q5, q6, q7, q8, q9⟩ := t
  exact ⟨a0, fun b o q => PySem.W.of_hideAll _ q, PySem.W.hideAll_none _ (by simp), PySem.W.funFrames_hide ff fun env he a ha => List.mem_cons_of_mem _ (List.mem_cons_of_mem _ (List.mem_filterMap.mpr ⟨env, he, ha⟩)), oe, vs, T, oT, ts, q1, ⟨q2, q3⟩, q4, q5, PySem.W.hideAll_none _ (by simp), q6, q7, q8, q9⟩
theorem tr_of {a0 : Value} (x : h.TracedW B e cls a0) : ∃ T, Tr e T cls h ∧ B.get? T = none ∧ ∃ oT ts, h.get? T = some oT ∧ oT.data = .fields ts := by
  obtain ⟨oe, vs, T, oT, ts, q1, ⟨q2, q3⟩, q4, q5, qb, q6, q7, q8, q9⟩ := x
  exact ⟨T, ⟨a0, oe, vs, oT, ts, q1, q2, q3, q4, q5, q6, q7, q8, q9⟩, qb, oT, ts, q7, q8⟩
theorem Away.step {a0 : Value} (A : Away P w fs H hs H' e T h) (ff : h.FunFrames B l) (st : (PySem.W.hideAll h (e :: T :: frs l)).StaysIn h') (us : h.UpToSlots h') (tr : h'.TracedW (PySem.W.hideAll h (e :: T :: frs l)) e cls a0)
    (hfr : ∀ b ∈ frs l, (b ∈ fs ∨ hs.get? b = none) ∧ H' b = none) : ∃ T', Away P w fs H hs H' e T' h' ∧ Tr e T' cls h' := by
  have has : ∀ b ∈ [e, T], hs.get? b = none ∧ H' b = none := fun b hb => by
    rcases List.mem_cons.mp hb with rfl | hb
    · exact ⟨A.e0, A.He⟩
    · have : b = T := by simpa using hb
      subst this; exact ⟨A.T0, A.HT⟩
  have nf : ∀ b, b ∈ frs l → ∃ o, h.get? b = some o ∧ ∀ vs, o.data ≠ .fields vs := fun b hb => (ff.mem hb).2
  obtain ⟨T', t', hT', oT, ts, q7, q8⟩ := tr_of tr
  have hTf : T' ∉ frs l := fun z => by
    obtain ⟨o, ho, hd⟩ := nf _ z
    obtain ⟨sl, hs'⟩ := us _ o ho hd
    rw [hs'] at q7
    have : oT.data = o.data := by cases q7; rfl
    exact hd ts (this ▸ q8)
  obtain ⟨u1, u2⟩ := step_away (as := [e, T]) (fr := frs l) A.un A.hok (fun b o q n1 n2 => st b o (PySem.W.hideAll_get _ q (by
    intro z
    rcases List.mem_cons.mp z with z | z
    · exact n1 (by simp [z])
    · rcases List.mem_cons.mp z with z | z
      · exact n1 (by simp [z])
      · exact n2 z))) (fun b o hb q => by
        obtain ⟨o', ho', hd⟩ := nf b hb
        rw [ho'] at q; cases q
        exact us b o ho' hd) has hfr
  obtain ⟨n1, n2⟩ := entry_new (T' := T') (as := [e, T]) A.un A.hok has fun o q => by
    refine Classical.byContradiction fun z => ?_
    have : (PySem.W.hideAll h (e :: T :: frs l)).get? T' = some o := PySem.W.hideAll_get _ q (by
      intro y
      rcases List.mem_cons.mp y with y | y
      · exact z (by simp [y])
      · rcases List.mem_cons.mp y with y | y
        · exact z (by simp [y])
        · exact hTf y)
    rw [hT'] at this; cases this
  exact ⟨T', ⟨u1, u2, A.e0, n1, A.He, n2⟩, t'⟩
end
def CXD (P : Program) (w : World) : CXT := fun outer H s E ev s' => ∃ e T cls H', ev = .ref e ∧ s'.os = s.os ∧ AllBare s'.gens ∧ Away P w (frs outer) H s.heap H' e T s'.heap ∧ Tr e T cls s'.heap ∧ E cls none H'
structure Flown (X : Cx) (pins : List (Addr × Obj)) (σ : L2.St) (H' : Hp) (s' : Shared) (e T : Addr) (cls : Value) : Prop where
  ex : ∃ H s, Inv X pins σ H s ∧ s'.os = s.os ∧ AllBare s'.gens ∧ Away X.prog X.w (frs X.stack) H s.heap H' e T s'.heap ∧ Tr e T cls s'.heap
theorem Flown.inv {X : Cx} {pins : List (Addr × Obj)} {σ : L2.St} {H' : Hp} {s' : Shared} {e T : Addr} {cls : Value} (F : Flown X pins σ H' s' e T cls) : Inv X pins σ H' s' := by
  obtain ⟨H, s, I, os, g, A, t⟩ := F.ex
  exact I.call' (ch := []) os A.un A.hok g (fun b z => absurd z (by simp))
abbrev XW := L2.St → Value → Hp → Prop
def AccM (X : Cx) (W : XW) : Prop := ∀ pins σ H s e cls args h', Inv X pins σ H s → Heap.MadeExcOf s.heap h' e cls args → W σ cls H → X.xe (.ref e) { s with heap := h' }
section
variable {P : Program} {w : World} {K : PySem.W.Frag} {mg : Str → Option Value} {base : Heap} {N : List Str} {qual : Str} {scope : Scope} {f : Addr} {cd : Value} {A : Around} {outer : List Env} {s0 : Shared} {H0 : Hp} {E : XK}
theorem accM_fn : AccM (cxOf (CXD P w) P w K mg base N qual scope f cd A outer s0 H0 E) (fun _ cls H => E cls none H) := by
  intro pins σ H s e cls args h1 I mk q
  show wpAny _ _ (leaving _ _) _ _ _
  have ff := I.stack
  have ff2 : s.heap.FunFrames (PySem.W.hideAll s.heap (frs (envOfC qual scope s0.heap.objs.size f cd :: outer))) (envOfC qual scope s0.heap.objs.size f cd :: outer) := PySem.W.funFrames_hide ff fun env he a ha => List.mem_filterMap.mpr ⟨env, he, ha⟩
  refine wpAny_leaves_madeW (s := { s with heap := h1 }) (h := s.heap) I.ok.frames rfl (fun b o z => PySem.W.of_hideAll _ z) ff2 mk fun h' t x1 x2 x3 x4 => ?_
  have x4 : h1.UpToSlots h' := x4
  obtain ⟨T', t', hT', oT, ts, q7, q8⟩ := tr_of x1.2.2.2
  have nf : ∀ b, b ∈ frs (envOfC qual scope s0.heap.objs.size f cd :: outer) → ∃ o, s.heap.get? b = some o ∧ ∀ vs, o.data ≠ .fields vs := fun b hb => (ff.mem hb).2
  have us : s.heap.UpToSlots h' := (Heap.UpToSlots.of_keeps mk.keeps).trans x4
  have hTf : T' ∉ frs (envOfC qual scope s0.heap.objs.size f cd :: outer) := fun z => by
    obtain ⟨o, ho, hd⟩ := nf _ z
    obtain ⟨sl, hs'⟩ := us _ o ho hd
    rw [hs'] at q7
    have : oT.data = o.data := by cases q7; rfl
    exact hd ts (this ▸ q8)
  have hfr : ∀ b ∈ frs (envOfC qual scope s0.heap.objs.size f cd :: outer), (b ∈ frs outer ∨ s0.heap.get? b = none) ∧ H b = none := fun b hb => ⟨by
    have hb' : b = s0.heap.objs.size ∨ b ∈ frs outer := List.mem_cons.mp hb
    rcases hb' with z | z
    · right; rw [z]; exact Heap.get?_none_of_le (Nat.le_refl _)
    · exact .inl z, I.stkFree b hb⟩
  have un : Un (frs outer) [] H0 H s0.heap s.heap := I.base
  obtain ⟨u1, u2⟩ := step_away (as := []) (fr := frs (envOfC qual scope s0.heap.objs.size f cd :: outer)) (h' := h') un I.hok (fun b o z n1 n2 => x1.1 b o (PySem.W.hideAll_get _ z n2)) (fun b o hb z => by
        obtain ⟨o', ho', hd⟩ := nf b hb
        rw [ho'] at z; cases z
        exact us b o ho' hd) (fun b z => absurd z (by simp)) hfr
  have nw : ∀ b, (∀ o, s.heap.get? b = some o → False) → s0.heap.get? b = none ∧ H b = none := fun b z => entry_new (as := []) un I.hok (fun b z => absurd z (by simp)) fun o y => (z o y).elim
  have n1 := nw e fun o z => by have := mk.new; rw [z] at this; cases this
  have n2 := nw T' fun o z => by
    have : (PySem.W.hideAll s.heap (frs (envOfC qual scope s0.heap.objs.size f cd :: outer))).get? T' = some o := PySem.W.hideAll_get _ z hTf
    rw [hT'] at this; cases this
  exact ⟨e, T', cls, H, rfl, I.os, I.bare, ⟨u1, u2, n1.1, n2.1, n1.2, n2.2⟩, t', q⟩
end
end EV
set_option Elab.async false
set_option linter.all false
set_option autoImplicit false
set_option maxRecDepth 100000
namespace EV
open PySem PySem.Spec PyProof.Rows L2
theorem excObj {K : PySem.W.Frag} {h : Heap} {C : Addr} {bmB : List Value} {newId : String} (kin : K.In h) (t : PySem.W.excIn K C bmB newId = true) :
    ∃ bm N nm qn bs hdct sn sub ab col dd k0 k1 k2 k3 k5 mN, h.get? C = some (excClassObj nm qn C N bs bm hdct sn sub ab col dd k0 k1 k2 k3 k5 newId) ∧ h.Ns N mN ∧ mN "__init__" = none ∧ OwnTail h bmB bm := by
  cases lk : K.lookup C with
  | none => simp [PySem.W.excIn, lk] at t
  | some o =>
    obtain ⟨cl, dd, data, sl⟩ := o
    obtain ⟨sl⟩ := sl
    have hob := kin _ _ lk
    simp only [PySem.W.excIn, lk] at t
    split at t
    · rename_i heq
      simp only [Option.some.injEq, Obj.mk.injEq] at heq
      obtain ⟨rfl, rfl, rfl, rfl⟩ := heq
      split at t
      · rename_i cd _ _ C' bm s0 s1 s2 s3 nid s5 mr sls
        obtain ⟨a1, a2, a3, a4, a5, a6, a7, a8, a9, a10, a11⟩ := cd
        simp only [Bool.and_eq_true, beq_iff_eq, Bool.not_eq_true'] at t mr sls
        obtain ⟨⟨⟨⟨⟨e1, e2⟩, e3⟩, e4⟩, e5⟩, e6⟩ := t
        subst e1 e2 mr sls e3
        exact ⟨bm, _, _, _, _, _, _, _, _, _, dd, s0, s1, s2, s3, s5, _, hob, Heap.Ns.of_isNs (PySem.W.isNs_of_in kin e5), PySem.W.nsMap_none_of_in kin e5 e6, PySem.W.tail_of_in kin e4⟩
      · cases t
    · cases t
structure XCls (K : PySem.W.Frag) (mg : Str → Option Value) (n : Str) : Prop where
  ex : ∃ (C : Addr) (B newId initId : String) (bmB : List Value), mg n = some (.ref C) ∧ PySem.W.excIn K C bmB newId = true ∧ ExcBaseFacts B newId initId bmB
structure XHit (K : PySem.W.Frag) (mg : Str → Option Value) (n c : Str) : Prop where
  ex : ∃ u v, mg n = some u ∧ mg c = some v ∧ PySem.W.exmOne K u v = some true
abbrev XW2 := List (Addr × Obj) → L2.St → Value → Hp → Prop
def Acc2 (X : Cx) (W : XW2) : Prop := ∀ pins σ H' s' e T cls, Flown X pins σ H' s' e T cls → W pins σ cls H' → X.xe (.ref e) s'
def AccM2 (X : Cx) (W : XW2) : Prop := ∀ pins σ H s e cls args h', Inv X pins σ H s → Heap.MadeExcOf s.heap h' e cls args → W pins σ cls H → X.xe (.ref e) { s with heap := h' }
def Flat (W : XW2) : Prop := ∀ p σ p' σ' c H, W p σ c H → W p' σ' c H
def XPost (X : Cx) (W : XW2) (ρ : List Addr) (H : Hp) (h' : AH) (x : Ex) (pins : List (Addr × Obj)) (σ : L2.St) : Prop := ∀ ρ' H' cls, Ext X.K ρ H ρ' H' → RH X.K ρ' h' H' → X.mg x.cls = some cls → W pins σ cls H'
structure SX (X : Cx) (W : XW2) (e : Expr) (f : EF) : Prop where
  out : ∀ (pins : List (Addr × Obj)) (s : Shared) (σ : L2.St) (H : Hp) (Q : VK), Inv X pins σ H s → (∃ ρ σa h x h', RH X.K ρ h H ∧ RS X.K ρ H σa σ ∧ f σa h = .ex x h' ∧ XPost X W ρ H h' x pins σ) → wpAny (model X.prog X.w) X.A (eval e X.env) (EP X pins σ Q) X.xe s
structure SXA (X : Cx) (W : XW2) (es : List Expr) (f : AF) : Prop where
  out : ∀ (pos : Pos) (pins : List (Addr × Obj)) (s : Shared) (σ : L2.St) (H : Hp) (Q : List V → Hp → Prop), Inv X pins σ H s → (∃ ρ σa h x h', RH X.K ρ h H ∧ RS X.K ρ H σa σ ∧ f σa h = .ex x h' ∧ XPost X W ρ H h' x pins σ) → wpAny (model X.prog X.w) X.A (spliced (backTo pos (starEach es X.env))) (AP X pins σ Q) X.xe s
structure SXS (X : Cx) (W : XW2) (st : Stmt) (f : SF) : Prop where
  out : ∀ (pins : List (Addr × Obj)) (s : Shared) (σ : L2.St) (H : Hp) (D : Ends), Inv X pins σ H s → (∃ ρ σa h x h', RH X.K ρ h H ∧ RS X.K ρ H σa σ ∧ f σa h = .ex x h' ∧ XPost X W ρ H h' x pins σ) → wpAny (model X.prog X.w) X.A (exec st X.env) (SP X pins D) X.xe s
structure SXSs (X : Cx) (W : XW2) (st : List Stmt) (f : SF) : Prop where
  out : ∀ (pins : List (Addr × Obj)) (s : Shared) (σ : L2.St) (H : Hp) (D : Ends), Inv X pins σ H s → (∃ ρ σa h x h', RH X.K ρ h H ∧ RS X.K ρ H σa σ ∧ f σa h = .ex x h' ∧ XPost X W ρ H h' x pins σ) → wpAny (model X.prog X.w) X.A (execs st X.env) (SP X pins D) X.xe s
theorem bind_ex {α β : Type} {r : R α} {k : α → AH → R β} {x : Ex} {h' : AH} (e : r.bind k = .ex x h') : r = .ex x h' ∨ ∃ a h, r = .ok a h ∧ k a h = .ex x h' := by
  cases r with
  | ok a h => exact .inr ⟨a, h, rfl, e⟩
  | ex y h => have e2 : R.ex y h = R.ex x h' := e; cases e2; exact .inl rfl
  | bad => cases e
section
variable {X : Cx} {W : XW2}
def sBad0 : SF := fun _ _ => .bad
theorem sxss_bad {st : List Stmt} : SXSs X W st sBad0 := ⟨fun pins s σ H D I q => by obtain ⟨_, _, _, _, _, _, _, e, _⟩ := q; cases e⟩
def xDo (f : EF) : SF := fun σ h => (f σ h).bind fun _ _ => .bad
theorem sxs_expr {e : Expr} {f : EF} {pos : Pos} (h : SX X W e f) (hs : swapsWith e none pos.line X.env = pure false := by rfl) : SXS X W (.Expr e pos) (xDo f) := ⟨fun pins s σ H D I q => by
  obtain ⟨ρ, σa, h0, x, h', rh, rs, e1, k⟩ := q
  refine wpAny_Expr_any (thn (h.out pins s σ H (fun _ _ => False) I ⟨ρ, σa, h0, x, h', rh, rs, ?_, k⟩) fun v s1 ⟨y, H1, I1, r1, q1⟩ => q1.elim) I.quiet hs
  rcases bind_ex e1 with z | ⟨_, _, _, z⟩
  · exact z
  · cases z⟩
def xIf (c : TF) (f g : SF) : SF := fun σ h => match c σ h with | .ok b h1 => if b = true then f σ h1 else g σ h1 | _ => .bad
theorem sxs_if {c : Expr} {a b : List Stmt} {pos : Pos} {tc : TF} {f g : SF} (hc : ST X c tc) (ha : SXSs X W a f) (hb : SXSs X W b g) : SXS X W (.If c a b pos) (xIf tc f g) := ⟨fun pins s σ H D I q => by
  obtain ⟨ρ, σa, h0, x, h', rh, rs, e1, k⟩ := q
  unfold xIf at e1
  split at e1
  · rename_i v h1 z
    refine wpAny_If (thn (hc.out pins s σ H (fun b' H1 => b' = v ∧ ∃ ρ1, Ext X.K ρ H ρ1 H1 ∧ RH X.K ρ1 h1 H1) I ⟨ρ, σa, h0, v, h1, rh, rs, z, fun ρ1 H1 p1 rh1 => ⟨rfl, ρ1, p1, rh1⟩⟩) fun d s1 ⟨H1, I1, q1⟩ => ?_)
    obtain ⟨rfl, ρ1, p1, rh1⟩ := q1
    have k1 : XPost X W ρ1 H1 h' x pins σ := fun ρ2 H2 cls p2 rh2 hm => k ρ2 H2 cls (p1.trans p2) rh2 hm
    cases d with
    | true => exact ha.out pins s1 σ H1 D I1 ⟨ρ1, σa, h1, x, h', rh1, rs.up p1, e1, k1⟩
    | false => exact hb.out pins s1 σ H1 D I1 ⟨ρ1, σa, h1, x, h', rh1, rs.up p1, e1, k1⟩
  · cases e1⟩
def xSeq (g1 f1 g2 : SF) : SF := fun σ h => match g1 σ h with
  | .ex x h' => .ex x h'
  | _ => match f1 σ h with | .ok (.next σ1) h1 => g2 σ1 h1 | _ => .bad
theorem sxss_cons {st : Stmt} {rest : List Stmt} {g1 f1 g2 : SF} (hW : Flat W) (a : SXS X W st g1) (b : SS X st f1) (c : SXSs X W rest g2) : SXSs X W (st :: rest) (xSeq g1 f1 g2) := ⟨fun pins s σ H D I q => by
  obtain ⟨ρ, σa, h0, x, h', rh, rs, e1, k⟩ := q
  have key : ∀ σ1 h1, f1 σa h0 = .ok (.next σ1) h1 → g2 σ1 h1 = .ex x h' → wpAny (model X.prog X.w) X.A (execs (st :: rest) X.env) (SP X pins D) X.xe s := by
    intro σ1 h1 z1 z2
    refine wpAny_execs_cons (thn (b.out pins s σ H { nx := fun σ' H1 => ∃ ρ1, Ext X.K ρ H ρ1 H1 ∧ RH X.K ρ1 h1 H1 ∧ RS X.K ρ1 H1 σ1 σ', rt := fun _ _ => False } I ⟨ρ, σa, h0, _, h1, rh, rs, z1, fun ρ1 H1 p1 rh1 σ' rs' => ⟨ρ1, p1, rh1, rs'⟩⟩) fun f s1 q => ?_)
    cases f with
    | next =>
      obtain ⟨σ', H1, I1, ρ1, p1, rh1, rs1⟩ := q
      exact c.out pins s1 σ' H1 D I1 ⟨ρ1, σ1, h1, x, h', rh1, rs1, z2, fun ρ2 H2 cls p2 rh2 hm => hW _ _ _ _ _ _ (k ρ2 H2 cls (p1.trans p2) rh2 hm)⟩
    | brk => obtain ⟨_, _, _, q⟩ := q; exact q.elim
    | cont => obtain ⟨_, _, _, q⟩ := q; exact q.elim
    | ret u => obtain ⟨_, _, _, _, _, q⟩ := q; exact q.elim
  unfold xSeq at e1
  split at e1
  · rename_i y h2 z
    cases e1
    refine wpAny_execs_cons (thn (a.out pins s σ H { nx := fun _ _ => False, rt := fun _ _ => False } I ⟨ρ, σa, h0, _, _, rh, rs, z, k⟩) fun f s1 q => ?_)
    cases f with
    | next => obtain ⟨_, _, _, q⟩ := q; exact q.elim
    | brk => obtain ⟨_, _, _, q⟩ := q; exact q.elim
    | cont => obtain ⟨_, _, _, q⟩ := q; exact q.elim
    | ret u => obtain ⟨_, _, _, _, _, q⟩ := q; exact q.elim
  · split at e1
    · rename_i σ1 h1 z
      exact key σ1 h1 z e1
    · cases e1⟩
theorem sxss_one {st : Stmt} {g1 : SF} (a : SXS X W st g1) : SXSs X W [st] g1 := ⟨fun pins s σ H D I q => by
  refine wpAny_execs_cons (thn (a.out pins s σ H { nx := fun _ _ => False, rt := fun _ _ => False } I q) fun f s1 q => ?_)
  cases f with
  | next => obtain ⟨_, _, _, q⟩ := q; exact q.elim
  | brk => obtain ⟨_, _, _, q⟩ := q; exact q.elim
  | cont => obtain ⟨_, _, _, q⟩ := q; exact q.elim
  | ret u => obtain ⟨_, _, _, _, _, q⟩ := q; exact q.elim⟩
def sRaise (n : Str) (f : AF) : SF := fun σ h => match f σ h with | .ok vs h1 => if vs.length ≤ sizeLine then .ex ⟨n, []⟩ h1 else .bad | _ => .bad
theorem sxs_raise {n : Str} {e : Expr} {es : List Expr} {f : AF} {np cpos pos : Pos} (hX : XCls X.K X.mg n) (am : AccM2 X W) (hc : X.calm = true) (ha : SA X (e :: es) f) (hg : Gl X n := by rfl)
    (hd : (n == ("__debug__" : Str)) = false := by decide +kernel) (he : starEach (e :: es) X.env = (false, eval e X.env) :: starEach es X.env := by rfl) (hpl : (backTo cpos (starEach es X.env)).any (·.1) = false := by rfl) :
    SXS X W (.Raise (some (.Call (.Name n np) (e :: es) [] cpos)) none pos) (sRaise n f) := ⟨fun pins s σ H D I q => by
  obtain ⟨ρ, σa, h0, x, h', rh, rs, e1, k⟩ := q
  obtain ⟨C, B, newId, initId, bmB, hm, hex, FB⟩ := hX.ex
  unfold sRaise at e1
  split at e1
  · rename_i vs h1 z
    split at e1
    · rename_i hlen
      cases e1
      obtain ⟨bm, N, nm, qn, bs, hdct, sn, sub, ab, col, dd, k0, k1, k2, k3, k5, mN, hC, hN, hni, T⟩ := excObj I.ok.mod.kin hex
      refine wpAny_Raise_call_subT (C := C) (nm := nm) (q := qn) (N := N) (bs := bs) (bm := bm) (hdct := hdct) (sn := sn) (sub := sub) (ab := ab) (col := col) (dd := dd) (k0 := k0) (k1 := k1) (k2 := k2) (k3 := k3) (k5 := k5)
        FB (mN := mN) (T.hasType FB.hasBase) (I.ok.hd hc) (by rw [he]; show (false || (backTo cpos (starEach es X.env)).any (·.1)) = false; rw [hpl]; rfl) hni (ld_glob I hg hm ⟨rfl, ?_⟩ hd)
      have A := ha.out cpos pins s σ H (fun ys H1 => ys.length = vs.length ∧ ∃ ρ1, Ext X.K ρ H ρ1 H1 ∧ RH X.K ρ1 h' H1) I ⟨ρ, σa, h0, vs, h', rh, rs, z, fun ρ1 ys H1 p1 rh1 ry => ⟨ry.length.symm, ρ1, p1, rh1⟩⟩
      rw [he] at A ⊢
      refine Calls.evalArgs_plain (wpAny_mono A (fun us s2 ⟨ys, H1, I1, r1, hl, ρ1, p1, rh1⟩ => ?_) fun _ _ y => y)
      refine ⟨rfl, by rw [← r1.length, hl]; exact hlen, I1.bk _ _ hC, hN.keeps I1.bk, T.keeps I1.bk, fun h2 ea mk => ?_⟩
      exact am pins σ H1 s2 ea _ _ h2 I1 mk (k ρ1 H1 _ p1 rh1 hm)
    · cases e1
  · cases e1⟩
end
end EV
set_option Elab.async false
set_option linter.all false
set_option autoImplicit false
set_option maxRecDepth 100000
namespace EV
open PySem PySem.Spec PyProof.Rows L2
noncomputable def mkFx (np n : Nat) (b : SF) : BF := fun ds h => if ds.length = np then (match b (startD n ds) h with | .ex x h' => .ex x h' | _ => .bad) else .bad
theorem mkFx_len {np n : Nat} {b : SF} {ds : List D} {h h' : AH} {x : Ex} (e : mkFx np n b ds h = .ex x h') : ds.length = np := by
  unfold mkFx at e
  split at e
  · rename_i q; exact q
  · cases e
def spX (K : PySem.W.Frag) (mg : Str → Option Value) (n : Nat) (F : BF) : Sp := fun vs H _ E => ∃ ρ ds h x h', RH K ρ h H ∧ RVs K ρ H ds vs ∧ ds.length = n ∧ F ds h = .ex x h' ∧ ∀ ρ' H' cls, Ext K ρ H ρ' H' → RH K ρ' h' H' → mg x.cls = some cls → E cls none H'
section
variable {P : Program} {w : World} {K : PySem.W.Frag} {mg : Str → Option Value} {base : Heap}
theorem fx_ok {x qual : Str} {st : Stmt} {dV : Value} {f : Addr} {fd : FuncData} {N ps : List Str} {k : Nat} {b : SF} (F : FunA K x qual st dV f fd) (S : FnScope N ps (defScope st))
    (hb : ∀ (cdv : Value) (A : Around) (outer : List Env) (s : Shared) (H : Hp) (E : XK), Room k (A.deeper (envOfC qual (defScope st) s.heap.objs.size f cdv)) → SXSs (cxOf (CXD P w) P w K mg base N qual (defScope st) f cdv A outer s H E) (fun _ _ cls H' => E cls none H') (defBody st) b) :
    FnOk P w K mg base (CXD P w) (k + 1) f fd ps (spX K mg ps.length (mkFx ps.length N.length b)) := by
  obtain ⟨oc, od, kV, doc, pm, an, cdv, ct, osl, rfl, lk, hcd⟩ := F.ex
  refine fn_of lk hcd S (fun vs H Q E q => ?_) fun A outer s H vs Q E hr hsp => ?_
  · obtain ⟨ρ, ds, h, v, h', rh, r, hl, _⟩ := q
    rw [← r.length]; exact hl
  · refine ⟨fun D σ H1 => ∃ ρ σa h x h', RH K ρ h H1 ∧ RS K ρ H1 σa σ ∧ b σa h = .ex x h' ∧ ∀ ρ' H' cls, Ext K ρ H1 ρ' H' → RH K ρ' h' H' → mg x.cls = some cls → E cls none H', fun pins s1 σ H1 D I q => ?_, ?_⟩
    · obtain ⟨ρ, σa, h, y, h', rh, rs, e, kk⟩ := q
      exact (hb cdv A outer s H E hr).out pins s1 σ H1 D I ⟨ρ, σa, h, y, h', rh, rs, e, kk⟩
    · obtain ⟨ρ, ds, h, y, h', rh, r, hl, e, kk⟩ := hsp
      unfold mkFx at e
      rw [if_pos hl] at e
      split at e
      · rename_i z h2 q
        cases e
        exact ⟨ρ, _, h, _, _, rh, RS.start r, q, kk⟩
      · cases e
structure HasFx (P : Program) (w : World) (K : PySem.W.Frag) (mg : Str → Option Value) (base : Heap) (k : Nat) (x : Str) (st : Stmt) (dV : Value) (ps : List Str) (F : BF) : Prop where
  ex : ∃ (f : Addr) (fd : FuncData), mg x = some (.ref f) ∧ FunA K x x st dV f fd ∧ FnOk P w K mg base (CXD P w) k f fd ps (spX K mg ps.length F)
  len : ∀ ds h y h', F ds h = .ex y h' → ds.length = ps.length
theorem HasFx.mono {j k : Nat} {x : Str} {st : Stmt} {dV : Value} {ps : List Str} {F : BF} (h : HasFx P w K mg base j x st dV ps F) (l : j ≤ k) : HasFx P w K mg base k x st dV ps F := by
  obtain ⟨f, fd, a, b, c⟩ := h.ex
  exact ⟨⟨f, fd, a, b, c.mono l⟩, h.len⟩
theorem accM2_fn {N : List Str} {qual : Str} {scope : Scope} {f : Addr} {cd : Value} {A : Around} {outer : List Env} {s0 : Shared} {H0 : Hp} {E : XK} : AccM2 (cxOf (CXD P w) P w K mg base N qual scope f cd A outer s0 H0 E) (fun _ _ cls H => E cls none H) := fun pins σ H s e cls args h' I mk q => accM_fn pins σ H s e cls args h' I mk q
theorem flat_fn {E : XK} : Flat (fun _ _ cls H => E cls none H) := fun _ _ _ _ _ _ z => z
end
section
variable {X : Cx} {W : XW2} {k : Nat} {x : Str} {st : Stmt} {dV : Value} {ps : List Str} {F G : BF} {e : Expr} {es : List Expr} {f : AF} {p pos : Pos}
def xApp (G : BF) (f : AF) : EF := fun σ h => match f σ h with | .ok vs h1 => (match G vs h1 with | .ex y h' => .ex y h' | _ => .bad) | _ => .bad
theorem sx_call (HF : HasFx X.prog X.w X.K X.mg X.base k x st dV ps G) (hr : Room k X.A) (ac : Acc2 X W) (ha : SA X (e :: es) f)
    (hb : ∀ (kV doc pm : Value) (an : Option Addr) (cdv ct : Value) (us : List Value), us.length = ps.length → ∀ s : Shared, X.K.In s.heap → BindsTo s (PySem.W.fnOf x x (defArgs st) (defBody st) (defScope st) dV kV doc pm an cdv ct) ⟨us, []⟩ (ps.zip us))
    (hg : Gl X x := by rfl) (hdb : (x == ("__debug__" : Str)) = false := by decide +kernel) (he : starEach (e :: es) X.env = (false, eval e X.env) :: starEach es X.env := by rfl) (hpl : (backTo pos (starEach es X.env)).any (·.1) = false := by rfl) :
    SX X W (.Call (.Name x p) (e :: es) [] pos) (xApp G f) := ⟨fun pins s σ H Q I q => by
  obtain ⟨a, fd, hm, FA, ok⟩ := HF.ex
  obtain ⟨oc, od, kV, doc, pm, an, cdv, ct, osl, rfl, lk, hcd⟩ := FA.ex
  obtain ⟨ρ, σa, h0, y, h', rh, rs, e1, kk⟩ := q
  unfold xApp at e1
  split at e1
  · rename_i vs h1 z
    split at e1
    · rename_i y2 h2 z2
      cases e1
      have hl := HF.len vs h1 _ _ z2
      refine wpAny_Call_Name_kw (ld_glob I hg hm ?_ hdb)
      refine PySem.W.callWith_K (h₀ := X.base) I.ok.mod.kin FA.kp (thn (ha.out pos pins s σ H (fun ys H1 => ∃ ρ1, Ext X.K ρ H ρ1 H1 ∧ RH X.K ρ1 h1 H1 ∧ RVs X.K ρ1 H1 vs ys) I ⟨ρ, σa, h0, vs, h1, rh, rs, z, fun ρ1 ys H1 p1 rh1 ry => ⟨ρ1, p1, rh1, ry⟩⟩) fun us s1 ⟨ys, H1, I1, r, ρ1, p1, rh1, ry⟩ => ⟨I1.kIn, ?_⟩) he hpl
      have hl2 : us.length = ps.length := by rw [← r.length, ← ry.length]; exact hl
      refine wpAny_call (codeAny_mono (ok.run X.A X.stack s1 H1 ⟨us, []⟩ us ys Q (fun cls _ H' => W pins σ cls H') hr I1.env0 (hb kV doc pm an cdv ct us hl2 s1 I1.kIn) r ⟨ρ1, vs, h1, y, h', rh1, ry, hl, z2, fun ρ2 H2 cls p2 rh2 hm2 => kk ρ2 H2 cls (p1.trans p2) rh2 hm2⟩) fun res s' hq => ?_)
      cases res with
      | error ev =>
        obtain ⟨ea, T, cls, H', rfl, os, g, Aw, t, q⟩ := hq
        exact ac pins σ H' s' ea T cls ⟨H1, s1, I1, os, g, Aw, t⟩ q
      | ok fl =>
        cases fl with
        | ret u => exact I1.after hq
        | next => exact False.elim hq
        | brk => exact False.elim hq
        | cont => exact False.elim hq
    · cases e1
  · cases e1⟩
end
theorem PS.nox {X : Cx} {st : Stmt} {t : TS} (h : PS X.nox st t) : PS X st t := fun pins s σ H D I hw =>
  wpAny_mono (h pins s σ H D (I.wish _) hw) (fun _ _ q => q.unwish) fun _ _ z => False.elim z
theorem SS.nox {X : Cx} {st : Stmt} {f : SF} (h : SS X.nox st f) : SS X st f := ⟨PS.nox h.out⟩
theorem SSs.nox {X : Cx} {st : List Stmt} {f : SF} (h : SSs X.nox st f) : SSs X st f := ⟨PSs.nox h.out⟩
theorem PA.nox {X : Cx} {es : List Expr} {t : TA} (h : PA X.nox es t) : PA X es t := fun pos pins s σ H Q I hw =>
  wpAny_mono (h pos pins s σ H Q (I.wish _) hw) (fun _ _ ⟨vs, H', I', r, q⟩ => ⟨vs, H', I'.unwish, r, q⟩) fun _ _ z => False.elim z
theorem SA.nox {X : Cx} {es : List Expr} {f : AF} (h : SA X.nox es f) : SA X es f := ⟨PA.nox h.out⟩
theorem SE.nox {X : Cx} {e : Expr} {f : EF} (h : SE X.nox e f) : SE X e f := ⟨PE.nox h.out⟩
theorem ST.nox {X : Cx} {e : Expr} {f : TF} (h : ST X.nox e f) : ST X e f := ⟨PT.nox h.out⟩
abbrev Cx.caught (X : Cx) (A : Around) (E : Value → Shared → Prop) : Cx := { X with A := A, xe := E, calm := false }
section
variable {X : Cx} {A : Around} {E : Value → Shared → Prop} {pins : List (Addr × Obj)} {σ : L2.St} {H : Hp} {s : Shared}
theorem Inv.caught (I : Inv X pins σ H s) (hA : A.frames = X.A.frames) (E : Value → Shared → Prop) : Inv (Cx.caught X A E) pins σ H s :=
  ⟨⟨I.ok.mod, I.ok.kind, I.ok.glob, I.ok.blt, I.ok.above, I.ok.inj, I.ok.has, I.ok.cab, (fun z => nomatch z), hA.trans I.ok.frames, I.ok.stk, I.ok.exf, I.ok.bs, I.ok.bsz, I.ok.noex, I.ok.exfs, I.ok.funs, I.ok.frf⟩, I.os, I.bare, I.base, I.loc, I.cell, I.free, I.freeC, I.pin, I.hok, I.len⟩
end
section
variable {X : Cx} {body suite : List Stmt} {b0 : Stmt} {c : Str} {cl : List Str} {f g k : SF} {np hpos pos : Pos}
end
end EV
set_option Elab.async false
set_option linter.all false
set_option autoImplicit false
set_option maxRecDepth 100000
namespace EV
open PySem PySem.Spec PyProof.Rows L2
section
variable {X : Cx}
theorem cat_tup0 {prog : Program} {w : World} {A : Around} {E : Value → Shared → Prop} {s : Shared} {t b : Addr} {ws : List Value} {Q : Value → Shared → Prop} (ht : IsTup s.heap t #[]) (hb : IsTup s.heap b ws.toArray) (h1 : Q (.ref b) s) :
    wpAny (model prog w) A (binaryOp .Add (.ref t) (.ref b)) Q E s := by
  obtain ⟨⟨cls, dd, data, sl⟩, ho, hc, n, hd⟩ := id ht
  obtain ⟨⟨cls2, dd2, data2, sl2⟩, ho2, hc2, n2, hd2⟩ := id hb
  simp only at hc hd hc2 hd2
  subst hc hd hc2 hd2
  exact concat_meets ⟨_, ho, rfl⟩ ⟨_, ho2, rfl⟩ noFill_tuple_add seq_tuple_add PySem.F.slot_tuple_add PySem.F.entry_tuple_add (PySem.F.args_tuple_add_2 _ _) (tuple_addW0 t b #[] ws.toArray n n2 dd dd2 sl sl2 rfl) ⟨ho, ho2, h1⟩
def rCatE (K : PySem.W.Frag) : R2 := fun x y H Q => ∃ a b xs ys, x = .ref a ∧ y = .ref b ∧ SqT K H a xs ∧ SqT K H b ys ∧ xs.length + ys.length ≤ sizeLine ∧
  (xs = [] → Q (.ref b) H) ∧ (xs ≠ [] → ys = [] → Q (.ref a) H) ∧ (xs ≠ [] → ys ≠ [] → ∀ p, H p = none → Q (.ref p) (upd H p (.tup (xs ++ ys))))
theorem op_catE : OpR X (binaryOp .Add) (rCatE X.K) := by
  intro pins s σ H x y v u Q I rx ry h
  obtain ⟨a, b, xs, ys, e1, e2, ha, hb, hz, q0, q1, q2⟩ := h
  by_cases hx : xs = []
  · subst e1 e2 hx
    cases rx
    cases ry
    obtain ⟨its, r1, p1, _⟩ := I.tuple ha
    obtain ⟨its2, r2, p2, _⟩ := I.tuple hb
    cases r1
    exact cat_tup0 p1 p2 ⟨.ref b, H, I, rfl, q0 rfl⟩
  · exact op_catT pins s σ H x y v u Q I rx ry ⟨a, b, xs, ys, e1, e2, ha, hb, hx, hz, q1 hx, q2 hx⟩
def oCatT : Op2 := fun x y h => match x, y with
  | .tup xs, .tup ys => if xs.length + ys.length ≤ sizeLine then .ok (.tup (xs ++ ys)) h else .bad
  | _, _ => .bad
theorem sp_catE {K : PySem.W.Frag} : OpS K oCatT (rCatE K) := by
  intro ρ h H x y x' y' v h' Q rh rx ry e k
  unfold oCatT at e
  split at e
  · split at e
    · rename_i hz
      cases e
      cases rx with
      | @tup aa _ us ha ra =>
        cases ry with
        | @tup bb _ ws hb rb =>
          have l1 := ra.length
          have l2 := rb.length
          refine ⟨_, _, _, _, rfl, rfl, ha, hb, by omega, fun z => ?_, fun _ z => ?_, fun z1 z2 p hp => ?_⟩
          · subst z
            cases ra
            exact k ρ _ H Ext.refl rh (.tup hb rb)
          · subst z
            cases rb
            rw [List.append_nil] at k
            exact k ρ _ H Ext.refl rh (.tup ha ra)
          · have p1 : Ext K ρ H ρ (upd H p (.tup (us ++ ws))) := Ext.upd (.inl hp)
            exact k ρ _ _ p1 (rh.laid hp) (.tup (.inl (.inl upd_same)) ((ra.app rb).up p1))
    · cases e
  · cases e
def oCatL : Op2 := fun x y h => match x, y with
  | .ref n, .ref m => (match h[n]?, h[m]? with
    | some (.lst xs), some (.lst ys) => if xs.length + ys.length ≤ sizeLine then newL (xs ++ ys) h else .bad
    | _, _ => .bad)
  | _, _ => .bad
theorem sp_cat {K : PySem.W.Frag} : OpS K oCatL rCat := by
  intro ρ h H x y x' y' v h' Q rh rx ry e k
  unfold oCatL at e
  split at e
  · split at e
    · rename_i q1 q2
      split at e
      · rename_i hz
        cases e
        cases rx with
        | ref h1 =>
          cases ry with
          | ref h2 =>
            obtain ⟨us, u1, r1⟩ := rh.ob _ _ _ q1 h1
            obtain ⟨ws, u2, r2⟩ := rh.ob _ _ _ q2 h2
            refine ⟨_, _, us, ws, rfl, rfl, u1, u2, by rw [← r1.length, ← r2.length]; exact hz, fun p hp => ?_⟩
            obtain ⟨a1, a2, a3⟩ := newL_ok rh (r1.app r2) hp
            exact k _ _ _ a1 a2 a3
      · cases e
    · cases e
  · cases e
def oAddA : Op2 := orOp oAdd (orOp oCatT oCatL)
theorem se_addA {a b : Expr} {f g : EF} {pos : Pos} (ha : SE X a f) (hb : SE X b g) : SE X (.BinOp a .Add b pos) (eBin oAddA f g) :=
  se_bin (OpR.or op_add (OpR.or op_catE op_cat)) (OpS.or (ops_I0 fun _ _ _ _ => .int _) (OpS.or sp_catE sp_cat orOp_hd) orOp_hd) ha hb
end
section
variable {X : Cx}
theorem noFill_tup : fillsNumberSlot (.type "tuple") "mul" = pure false :=
  PySem.fillsNumberSlot_seq (id := "tuple.__mul__") (r := some (.builtin "tuple.__rmul__")) PySem.F.slot_tuple_mul.lookup (by decide +kernel) PySem.F.slot_tuple_rmul.lookup (by decide +kernel)
theorem repeat_tup : seqRepeat? (.type "tuple") = pure (some (.builtin "tuple.__mul__")) := by
  unfold seqRepeat?
  rw [PySem.seqSlot_of (T := "tuple") (name := "__mul__") (id := "tuple.__mul__") PySem.F.slot_tuple_mul.lookup (by decide +kernel), PySem.seqSlot_of (T := "tuple") (name := "__rmul__") (id := "tuple.__rmul__") PySem.F.slot_tuple_rmul.lookup (by decide +kernel)]
  rfl
theorem rmul_tup (a : Int) (t : Tok) (l : Addr) (items : Array Value) (n : Nat) (dd : Option Addr) (sl : Array (Option Value)) :
    Meets (Builtin.«int.__rmul__» ⟨[.int a t, .ref l], []⟩) (fun _ R s => s.heap.get? l = some { cls := .type "tuple", dict := dd, data := .seq items n, slots := sl } ∧ R (.ok (.ret Value.notImplemented)) s) :=
  .of_wp fun prog w A R s h => by obtain ⟨hp, g, d, tk, os⟩ := s; obtain ⟨hl, h⟩ := h; wp_walk; exact ⟨_, rfl, h⟩
theorem tup_mul1 (l : Addr) (items : Array Value) (n : Nat) (dd : Option Addr) (sl : Array (Option Value)) (u : Tok) :
    Meets (Builtin.«tuple.__mul__» ⟨[.ref l, .int 1 u], []⟩) (fun _ R s => s.heap.get? l = some { cls := .type "tuple", dict := dd, data := .seq items n, slots := sl } ∧ R (.ok (.ret (Value.ref l))) s) :=
  .of_wp fun prog w A R s h => by
    obtain ⟨hp, g, d, tk, os⟩ := s
    obtain ⟨hl, h⟩ := h
    have f1 := AutoSeq1.idx_int
    have f2 := AutoSeq1.sub_tuple_tuple
    wp_walk using AutoSeq1.wpAny_loadPart' hl
    exact ⟨_, rfl, h⟩
theorem tup_mulN (l : Addr) (items : Array Value) (n : Nat) (dd : Option Addr) (sl : Array (Option Value)) (k : Int) (u : Tok) (h0 : ¬ (decide (k < -(2 ^ 63)) || decide (k ≥ 2 ^ 63)) = true) (h1 : ¬ (items.isEmpty || k == 1) = true) (h2 : ¬ (decide (k ≤ 0) || items.isEmpty) = true)
    (h3 : ¬ (items.size : Int) * k > (2 ^ 63 - 1) / 8) (h4 : ¬ Builtin.Tuple.tupleTooMany ((items.size : Int) * k) = true)
    (h5 : ¬ ((List.replicate k.toNat items).foldl (· ++ ·) #[]).size > sizeLine) :
    Meets (Builtin.«tuple.__mul__» ⟨[.ref l, .int k u], []⟩) (fun _ R s => s.heap.get? l = some { cls := .type "tuple", dict := dd, data := .seq items n, slots := sl } ∧
      R (.ok (.ret (Value.ref s.heap.objs.size))) { s with heap := s.heap.push { cls := Value.type "tuple", data := Data.seq ((List.replicate k.toNat items).foldl (· ++ ·) #[]) } }) :=
  .of_wp fun prog w A R s h => by
    obtain ⟨hp, g, d, tk, os⟩ := s
    obtain ⟨hl, h⟩ := h
    have f1 := AutoSeq1.idx_int
    have f2 := AutoSeq1.sub_tuple_tuple
    wp_walk using AutoSeq1.wpAny_loadPart' hl
    rw [if_neg h0]
    wp_walk using AutoSeq1.wpAny_loadPart' hl
    rw [if_neg h3]
    wp_walk using AutoSeq1.wpAny_loadPart' hl
    exact ⟨_, rfl, h⟩
def rRepT (K : PySem.W.Frag) : R2 := fun x y H Q => ∃ a k xs, x = .ref a ∧ y = .int k ∧ SqT K H a xs ∧ xs ≠ [] ∧ 1 ≤ k ∧ k < 1000000 ∧ xs.length * k.toNat ≤ sizeLine ∧
  (k = 1 → Q (.ref a) H) ∧ (k ≠ 1 → ∀ p, H p = none → Q (.ref p) (upd H p (.tup (List.replicate k.toNat xs).flatten)))
theorem op_repT : OpR X (binaryOp .Mult) (rRepT X.K) := by
  intro pins s σ H x y v u Q I rx ry h
  obtain ⟨a, k, xs, rfl, rfl, ha, hx, h1, h2, hz, q1, q2⟩ := h
  cases rx
  obtain ⟨t, rfl⟩ := ry
  obtain ⟨its, r, p1, _⟩ := I.tuple ha
  obtain ⟨⟨cls, dd, data, sl⟩, ho, hc, n, hd⟩ := id p1
  simp only at hc hd
  subst hc hd
  have hl := r.length
  have hne : its ≠ [] := fun z => hx (r.nil_iff.mp z)
  have hpos : 0 < its.length := by cases its with | nil => exact absurd rfl hne | cons _ _ => simp
  have f0 : List.foldl (fun x1 x2 => x1 ++ x2) #[] (List.replicate k.toNat its.toArray) = (List.replicate k.toNat its).flatten.toArray := by
    have := foldl_rep its k.toNat []
    rw [List.nil_append] at this
    exact this
  have hsz : its.length * k.toNat ≤ sizeLine := by rw [← hl]; exact hz
  have sl63 : (sizeLine : Nat) ≤ 1000000000 := by rw [sizeLine_eq]; decide
  have hkk : (its.length : Int) * k = ((its.length * k.toNat : Nat) : Int) := by rw [Int.natCast_mul, Int.toNat_of_nonneg (by omega)]
  refine wpAny_binaryOp_repeat_ref (T := "tuple") (U := "int") (by decide) ⟨_, ho, rfl⟩ (fun s' => typeIs_int s' k t) noFill_tup PySem.F.fills_int_mul PySem.F.slot_int_rmul repeat_tup PySem.F.slot_int_index.lookup
    (call_meets PySem.F.slot_int_rmul (typeIs_int s k t) PySem.F.entry_int_rmul (PySem.F.args_int_rmul_2 _ _) (rmul_tup k t a its.toArray n dd sl) ⟨ho, rfl, ⟨_, ho, rfl⟩, ?_⟩)
  by_cases hk : k = 1
  · subst hk
    exact call_meets PySem.F.slot_tuple_mul ⟨_, ho, rfl⟩ PySem.F.entry_tuple_mul (PySem.F.args_tuple_mul_2 _ _) (tup_mul1 a its.toArray n dd sl t) ⟨ho, ⟨.ref a, H, I, rfl, q1 rfl⟩⟩
  · refine call_meets PySem.F.slot_tuple_mul ⟨_, ho, rfl⟩ PySem.F.entry_tuple_mul (PySem.F.args_tuple_mul_2 _ _) (tup_mulN a its.toArray n dd sl k t ?_ ?_ ?_ ?_ ?_ ?_) ⟨ho, ?_⟩
    · simp; omega
    · simp [hne, hk]
    · simp [hne]; omega
    · rw [List.size_toArray, hkk]; omega
    · unfold Builtin.Tuple.tupleTooMany
      rw [List.size_toArray, hkk, decide_eq_false (by omega)]
      exact Bool.false_ne_true
    · rw [f0, List.size_toArray, len_rep, Nat.mul_comm]; omega
    · rw [f0]
      refine ⟨.ref s.heap.objs.size, _, I.laid (t' := s.toks) (o := .tup (List.replicate k.toNat xs).flatten) (fun b ob q => Heap.get?_push_of_some _ q) (Nat.le_refl _) ?_, rfl, q2 hk _ (I.hok.fresh (Nat.le_refl _))⟩
      exact ⟨by rw [len_rep, Nat.mul_comm]; exact hz, _, r.rep k.toNat, IsTup.new _ _, _, Heap.get?_push_size _ rfl, rfl⟩
theorem RVs.rep {K : PySem.W.Frag} {ρ : List Addr} {H : Hp} {xs : List D} {ys : List V} (r : RVs K ρ H xs ys) : ∀ n : Nat, RVs K ρ H (List.replicate n xs).flatten (List.replicate n ys).flatten
  | 0 => .nil
  | n + 1 => by
    rw [List.replicate_succ, List.replicate_succ, List.flatten_cons, List.flatten_cons]
    exact r.app (RVs.rep r n)
def oRepT : Op2 := fun x y h => match x, y with
  | .tup xs, .int k => if xs ≠ [] ∧ 1 ≤ k ∧ k < 1000000 ∧ xs.length * k.toNat ≤ sizeLine then .ok (.tup (List.replicate k.toNat xs).flatten) h else .bad
  | _, _ => .bad
theorem sp_repT {K : PySem.W.Frag} : OpS K oRepT (rRepT K) := by
  intro ρ h H x y x' y' v h' Q rh rx ry e k
  unfold oRepT at e
  split at e
  · split at e
    · rename_i xs kk hz
      cases e
      cases ry
      cases rx with
      | @tup aa _ us ha ra =>
        have l1 := ra.length
        refine ⟨_, _, us, rfl, rfl, ha, fun z => ?_, hz.2.1, hz.2.2.1, by rw [← l1]; exact hz.2.2.2, fun z => ?_, fun z p hp => ?_⟩
        · subst z
          cases ra
          exact hz.1 rfl
        · subst z
          have e1 : (List.replicate (Int.toNat 1) xs).flatten = xs := by simp
          rw [e1] at k
          exact k ρ _ H Ext.refl rh (.tup ha ra)
        · have p1 : Ext K ρ H ρ (upd H p (.tup (List.replicate kk.toNat us).flatten)) := Ext.upd (.inl hp)
          exact k ρ _ _ p1 (rh.laid hp) (.tup (.inl (.inl upd_same)) ((ra.rep _).up p1))
    · cases e
  · cases e
def oRepL : Op2 := fun x y h => match x, y with
  | .ref n, .int k => (match h[n]? with
    | some (.lst xs) => if 0 ≤ k ∧ k < 1000000 ∧ xs.length * k.toNat ≤ sizeLine then newL (List.replicate k.toNat xs).flatten h else .bad
    | _ => .bad)
  | _, _ => .bad
theorem sp_rep {K : PySem.W.Frag} : OpS K oRepL rRep := by
  intro ρ h H x y x' y' v h' Q rh rx ry e k
  unfold oRepL at e
  split at e
  · split at e
    · rename_i q1
      split at e
      · rename_i hz
        cases e
        cases ry
        cases rx with
        | ref h1 =>
          obtain ⟨us, u1, r1⟩ := rh.ob _ _ _ q1 h1
          refine ⟨_, _, us, rfl, rfl, u1, by omega, by omega, by rw [← r1.length]; exact hz.2.2, fun p hp => ?_⟩
          obtain ⟨a1, a2, a3⟩ := newL_ok rh (r1.rep _) hp
          exact k _ _ _ a1 a2 a3
      · cases e
    · cases e
  · cases e
def oMulA : Op2 := orOp oMul (orOp oRepT oRepL)
theorem se_mulA {a b : Expr} {f g : EF} {pos : Pos} (ha : SE X a f) (hb : SE X b g) : SE X (.BinOp a .Mult b pos) (eBin oMulA f g) :=
  se_bin (OpR.or op_mulF (OpR.or op_repT op_rep)) (OpS.or (ops_I (fun _ _ c => c) fun _ _ _ _ => .int _) (OpS.or sp_repT sp_rep orOp_hd) orOp_hd) ha hb
end
section
variable {X : Cx}
theorem op_notB : OpR X (compareOp .IsNot) (fun x y H Q => ∃ a b, x = V.bl a ∧ y = V.bl b ∧ Q (.bl (!decide (a = b))) H) := by
  intro pins s σ H x y v u Q I rx ry h
  obtain ⟨a, b, rfl, rfl, q⟩ := h
  cases rx
  cases ry
  cases a <;> cases b <;> (unfold compareOp; wp_walk; exact fin_bl I q rfl)
def oNotB : Op2 := fun x y h => match x, y with | .bl a, .bl b => .ok (.bl (!decide (a = b))) h | _, _ => .bad
theorem sp_notB {K : PySem.W.Frag} : OpS K oNotB (fun x y H Q => ∃ a b, x = V.bl a ∧ y = V.bl b ∧ Q (.bl (!decide (a = b))) H) := by
  intro ρ h H x y x' y' v h' Q rh rx ry e k
  unfold oNotB at e
  split at e
  · cases e
    cases rx
    cases ry
    exact ⟨_, _, rfl, rfl, k ρ _ H Ext.refl rh (.bl _)⟩
  · cases e
end
end EV
set_option Elab.async false
set_option linter.all false
set_option autoImplicit false
set_option maxRecDepth 100000
namespace EV
open PySem PySem.Spec PyProof.Rows L2 HT
section
variable {prog : Program} {w : World} {A : Around} {E : Value → Shared → Prop} {s : Shared}
theorem tupExact {t : Addr} {items : Array Value} {Q : Bool → Shared → Prop} (ht : IsTup s.heap t items) (h : Q true s) : wpAny (model prog w) A (Builtin.Tuple.tupleIsExact (.ref t)) Q E s := by
  unfold Builtin.Tuple.tupleIsExact
  exact wpAny_bind (wpAny_typeOf ht.typeIs (wpAny_pure h))
theorem getItem_whole {t sl : Addr} {items : Array Value} {vl vu : Value} {lo hi : Option Int} {Q : Value → Shared → Prop} (ht : IsTup s.heap t items) (hs : s.heap.IsSliceOf sl vl vu .none) (pl : IsPart vl lo) (pu : IsPart vu hi)
    (hw : HT.sIx items.size 0 lo = 0 ∧ HT.sIx items.size items.size hi = items.size) (h : Q (.ref t) s) : wpAny (model prog w) A (getItem (.ref t) (.ref sl)) Q E s := by
  obtain ⟨os, hos, hcs, hds⟩ := id hs
  have hTs : s.TypeIs (.ref sl) "slice" := ⟨os, hos, hcs⟩
  unfold getItem
  try with_reducible refine wpAny_holding ?_
  first | refine wpAny_bind (wpAny_pure ?_) | skip
  refine wpAny_bind (wpAny_sequenceKey ht.typeIs (by decide) ?_)
  refine wpAny_bind (wpAny_callSpecial?_slot (name := Str.ofString "__getitem__") ht.typeIs PyProof.Rows.slot_tuple_getitem
    (wpAny_call_entry PyProof.Rows.slot_tuple_getitem ht.typeIs entry_tuple_getitem ?_ (args_tuple_getitem _ _)))
  show wpAny _ _ (Builtin.Tuple.tupleItemsOf (.ref t) >>= _) _ _ s
  refine wpAny_bind (tupleItemsOf_ ht ?_)
  refine wpAny_bind (wpAny_typeOf hTs ?_)
  rw [if_pos (by decide)]
  refine wpAny_bind (sliceApplied_gen hs pl pu ?_)
  rw [hw.1, hw.2]
  show wpAny _ _ (if (((0 : Nat) : Int) == 0 && (1 : Int) == 1 && (items.size - 0) == items.size) = true then _ else _) _ _ s
  rw [if_pos (by simp)]
  refine wpAny_bind (tupExact ht ?_)
  simp only [if_true]
  refine wpAny_bind (wpAny_rule ?_)
  first
    | exact wpAny_pure ⟨_, rfl, wpAny_pure h⟩
    | exact wpAny_bind (wpAny_pure (wpAny_pure ⟨_, rfl, wpAny_pure h⟩))
end
section
variable {X : Cx}
def rSlW (K : PySem.W.Frag) : V → Option Int → Option Int → Hp → VK → Prop := fun x lo hi H Q => ∃ a xs, x = .ref a ∧ SqT K H a xs ∧ (HT.sIx xs.length 0 lo = 0 ∧ HT.sIx xs.length xs.length hi = xs.length) ∧ Q (.ref a) H
theorem sl_whole : SlR X (rSlW X.K) := by
  intro pins s σ H x v vl vu lo hi sl Q I rx hs pl pu h
  obtain ⟨a, xs, rfl, hx, hw, q⟩ := h
  cases rx
  obtain ⟨its, r, ht, hz⟩ := I.tuple hx
  have hlen : its.toArray.size = xs.length := by rw [List.size_toArray]; exact r.length.symm
  exact ⟨"tuple", _, PyProof.Rows.slot_tuple_getitem.lookup, ht.typeIs, getItem_whole ht hs pl pu (by rw [hlen]; exact hw) ⟨.ref a, H, I, rfl, q⟩⟩
def slA (x : D) (lo hi : Option Int) (h : AH) : R D := match x with
  | .fz xs => newL (cutD xs lo hi) h
  | .tup xs => .ok (.tup (cutD xs lo hi)) h
  | .ref n => match h[n]? with | some (.lst xs) => newL (cutD xs lo hi) h | _ => .bad
  | _ => .bad
def eSlA (f : EF) (l u : OF) : EF := fun σ h => (f σ h).bind fun x h1 => (l σ h1).bind fun lo h2 => (u σ h2).bind fun hi h3 => slA x lo hi h3
theorem cut_whole {xs : List D} {lo hi : Option Int} (hw : HT.sIx xs.length 0 lo = 0 ∧ HT.sIx xs.length xs.length hi = xs.length) : cutD xs lo hi = xs := by
  unfold cutD
  rw [hw.1, hw.2]
  simp
theorem slA_eq {x : D} {lo hi : Option Int} {h : AH} {v : D} {h' : AH} (e : slA x lo hi h = .ok v h') : slD x lo hi h = .ok v h' ∨ ∃ xs, x = .tup xs ∧ (HT.sIx xs.length 0 lo = 0 ∧ HT.sIx xs.length xs.length hi = xs.length) ∧ v = .tup xs ∧ h' = h := by
  unfold slA at e
  unfold slD
  split at e
  · exact .inl e
  · rename_i xs
    by_cases hw : HT.sIx xs.length 0 lo = 0 ∧ HT.sIx xs.length xs.length hi = xs.length
    · cases e
      exact .inr ⟨xs, rfl, hw, by rw [cut_whole hw], rfl⟩
    · left
      (try simp only)
      rw [if_neg hw]
      exact e
  · exact .inl e
  · cases e
theorem se_slA {e : Expr} {lo hi : Option Expr} {f : EF} {l u : OF} {p2 pos : Pos} (he : SE X e f) (hl : SO X lo l) (hu : SO X hi u) : SE X (.Subscript e (.Slice lo hi none p2) pos) (eSlA f l u) :=
  ⟨PE.of (pe_slice (SlR.or (SlR.or sl_list sl_tup) sl_whole) he.out hl.out hu.out) fun σ H Q q => by
  obtain ⟨ρ, σa, h, v, h', rh, rs, e, k⟩ := q
  obtain ⟨x, h1, e1, e⟩ := bind_eq e
  obtain ⟨i, h2, e2, e⟩ := bind_eq e
  obtain ⟨j, h3, e3, e⟩ := bind_eq e
  refine ⟨ρ, σa, h, x, h1, rh, rs, e1, fun ρ1 x' H1 p1 rh1 rx => ⟨ρ1, σa, h1, i, h2, rh1, rs.up p1, e2, fun ρ2 H2 p2 rh2 => ⟨ρ2, σa, h2, j, h3, rh2, rs.up (p1.trans p2), e3, fun ρ3 H3 p3 rh3 => ?_⟩⟩⟩
  have rx3 := rx.up (p2.trans p3)
  have pp := p1.trans (p2.trans p3)
  rcases slA_eq e with e | ⟨xs, rfl, hw, rfl, rfl⟩
  · left
    unfold slD at e
    split at e
    · cases e
      cases rx3 with
      | fz hs r =>
        refine .inl ⟨_, _, rfl, hs.sq, fun p hp => ?_⟩
        obtain ⟨a, b, c⟩ := newL_ok rh3 (cutD_rel r i j) hp
        exact k _ _ _ (pp.trans a) b c
    · split at e
      · cases e
      · rename_i hne
        cases e
        cases rx3 with
        | tup hs r =>
          refine .inr ⟨_, _, rfl, hs, ?_, fun p hp => ?_⟩
          · rw [r.length] at hne; exact hne
          · exact k _ _ _ (pp.trans (Ext.upd (.inl hp))) (rh3.laid hp) (.newTup (cutD_rel r i j) hp)
    · rename_i n
      cases rx3 with
      | @ref _ a hr =>
        split at e
        · rename_i xs q0
          cases e
          obtain ⟨ys, hy, r⟩ := rh3.ob _ _ a q0 hr
          refine .inl ⟨_, _, rfl, SqL.of hy, fun p hp => ?_⟩
          obtain ⟨a, b, c⟩ := newL_ok rh3 (cutD_rel r i j) hp
          exact k _ _ _ (pp.trans a) b c
        · cases e
    · cases e
  · right
    cases rx3 with
    | tup hs r => exact ⟨_, _, rfl, hs, by rw [← r.length]; exact hw, k ρ3 _ H3 pp rh3 (.tup hs r)⟩⟩
end
end EV
set_option Elab.async false
set_option linter.all false
set_option autoImplicit false
set_option maxRecDepth 100000
namespace EV
open PySem PySem.Spec PyProof.Rows L2
section
variable {prog : Program} {w : World} {A : Around} {E : Value → Shared → Prop} {s : Shared}
end
section
variable {X : Cx}
end
end EV
set_option Elab.async false
set_option linter.all false
set_option autoImplicit false
set_option maxRecDepth 100000
namespace EV
open PySem PySem.Spec PyProof.Rows L2
mutual
inductive Rz (h : Heap) : Value → PyData → Prop
  | non : Rz h .none .none
  | bl (b : Bool) : Rz h (.bool b) (.bool b)
  | int (i : Int) (t : Tok) : Rz h (.int i t) (.int i)
  | str (x : Str) (t : Tok) : Rz h (.str x t) (.str x)
  | lst {a : Addr} {o : Obj} {vs : Array Value} {n : Nat} {xs : List PyData} : h.get? a = some o → o.cls = .type "list" → o.data = .seq vs n → RzA h vs.toList xs → Rz h (.ref a) (.list xs)
  | tup {a : Addr} {o : Obj} {vs : Array Value} {n : Nat} {xs : List PyData} : h.get? a = some o → o.cls = .type "tuple" → o.data = .seq vs n → RzA h vs.toList xs → Rz h (.ref a) (.tuple xs)
  | dct {a : Addr} {o : Obj} {n : Nat} : h.get? a = some o → o.cls = .type "dict" → o.data = .dict #[] n → (a == sysModules) = false → Rz h (.ref a) (.dict [])
inductive RzA (h : Heap) : List Value → List PyData → Prop
  | nil : RzA h [] []
  | cons {v : Value} {vs : List Value} {d : PyData} {ds : List PyData} : Rz h v d → RzA h vs ds → RzA h (v :: vs) (d :: ds)
end
section
variable {h : Heap}
mutual
theorem Rz.reads : ∀ {v : Value} {d : PyData}, Rz h v d → ∃ as, Reads h v d as
  | _, _, .non => ⟨_, .none⟩
  | _, _, .bl b => ⟨_, .bool b⟩
  | _, _, .int i t => ⟨_, .int i t⟩
  | _, _, .str x t => ⟨_, .str x t⟩
  | _, _, .lst e c q r => let ⟨_, z⟩ := RzA.reads r; ⟨_, .list e c q z⟩
  | _, _, .tup e c q r => let ⟨_, z⟩ := RzA.reads r; ⟨_, .tuple e c q z⟩
  | _, _, .dct e c q _ => ⟨_, .dict e c q .nil .nil⟩
theorem RzA.reads : ∀ {vs : List Value} {ds : List PyData}, RzA h vs ds → ∃ as, ReadsAll h vs ds as
  | _, _, .nil => ⟨_, .nil⟩
  | _, _, .cons a b => let ⟨_, z⟩ := Rz.reads a; let ⟨_, y⟩ := RzA.reads b; ⟨_, .cons z y⟩
end
variable {prog : Program} {w : World}
mutual
theorem repZ : ∀ {v : Value} {d : PyData}, Rz h v d → d.showable = true → d.shown.length ≤ sizeLine → ∃ bs, ReadAtMost h d.depth bs ∧ ReprK prog w bs h d.depth v d.shown
  | _, _, .non, _, _ => ⟨[], (fun _ z => nomatch z), by (simp only [PyData.shown]; exact .of_is ReprIs.none _ _ _)⟩
  | _, _, .bl b, _, _ => ⟨[], (fun _ z => nomatch z), by (simp only [PyData.shown]; exact .of_is (ReprIs.bool b) _ _ _)⟩
  | _, _, .int i t, hs, _ => ⟨[], (fun _ z => nomatch z), by (simp only [PyData.shown]; exact .of_is (ReprIs.int t (by simpa [PyData.showable] using hs)) _ _ _)⟩
  | _, _, .str x t, _, hz => ⟨[], (fun _ z => nomatch z), by (simp only [PyData.shown]; exact .of_is (ReprIs.str x t (by simpa only [PyData.shown] using hz)) _ _ _)⟩
  | _, _, .lst (a := a) (vs := vs) (xs := xs) e c q r, hs, hz => by
    have sm : (listText (PyData.shownAll xs)).length ≤ sizeLine := by (simpa only [PyData.shown] using hz)
    obtain ⟨bs, hb, hk⟩ := repZA r (by simpa [PyData.showable] using hs) (fun t ht => Nat.le_trans (listText_mem_le ht) sm)
    obtain ⟨_, rd⟩ := RzA.reads r
    have whole : Reads h (.ref a) (.list xs) _ := .list e c q rd
    have na : a ∉ bs := not_mem_of_deeper whole (by (simp only [PyData.depth]; omega)) hb
    refine ⟨a :: bs, ReadAtMost.cons whole (by (simp only [PyData.depth]; omega)) hb, ?_⟩
    simp only [PyData.depth, PyData.shown]
    obtain ⟨l⟩ := vs
    cases l with
    | nil =>
      have r' : RzA h [] xs := r
      cases r'
      simp only [PyData.shownAll, listText_nil]
      exact ReprK.listEmpty e c q
    | cons x l => exact ReprK.list e c q na (by simpa using hk.length_eq) (fun i y z => hk.item i y (by simpa using z))
  | _, _, .tup (a := a) (xs := xs) e c q r, hs, hz => by
    have sm : (tupleText (PyData.shownAll xs)).length ≤ sizeLine := by (simpa only [PyData.shown] using hz)
    obtain ⟨bs, hb, hk⟩ := repZA r (by simpa [PyData.showable] using hs) (fun t ht => Nat.le_trans (tupleText_mem_le ht) sm)
    obtain ⟨_, rd⟩ := RzA.reads r
    have whole : Reads h (.ref a) (.tuple xs) _ := .tuple e c q rd
    have na : a ∉ bs := not_mem_of_deeper whole (by (simp only [PyData.depth]; omega)) hb
    refine ⟨a :: bs, ReadAtMost.cons whole (by (simp only [PyData.depth]; omega)) hb, ?_⟩
    simp only [PyData.depth, PyData.shown]
    exact ReprK.tuple e c q na hk
  | _, _, .dct (a := a) e c q ns, hs, hz => by
    have whole : Reads h (.ref a) (.dict []) _ := .dict e c q .nil .nil
    refine ⟨[a], ReadAtMost.cons whole (Nat.le_refl _) (fun _ z => nomatch z), ?_⟩
    simp only [PyData.depth, PyData.shown, PyData.shownKv_eq]
    exact ReprK.dict e c q ns (by simp) (ReprEntriesK.of_two [] _ _ .nil .nil)
theorem repZA : ∀ {vs : List Value} {ds : List PyData}, RzA h vs ds → PyData.showableAll ds = true → (∀ t ∈ PyData.shownAll ds, t.length ≤ sizeLine) → ∃ bs, ReadAtMost h (PyData.depthAll ds) bs ∧ ReprAllK prog w bs h (PyData.depthAll ds) vs (PyData.shownAll ds)
  | _, _, .nil, _, _ => ⟨[], (fun _ z => nomatch z), by (simp only [PyData.shownAll]; exact .nil)⟩
  | _, _, .cons (d := d) (ds := ds) a b, hs, hz => by
    have two : d.showable = true ∧ PyData.showableAll ds = true := by (simpa [PyData.showableAll] using hs)
    obtain ⟨b1, m1, k1⟩ := repZ a two.1 (hz _ (by (simp only [PyData.shownAll]; exact List.mem_cons_self ..)))
    obtain ⟨b2, m2, k2⟩ := repZA b two.2 (fun t ht => hz t (by (simp only [PyData.shownAll]; exact List.mem_cons_of_mem _ ht)))
    refine ⟨b1 ++ b2, fun x hx => ?_, ?_⟩
    · simp only [PyData.depthAll]
      rcases List.mem_append.mp hx with y | y
      · obtain ⟨d2, as2, r2, l2⟩ := m1 x y
        exact ⟨d2, as2, r2, Nat.le_trans l2 (Nat.le_max_left _ _)⟩
      · obtain ⟨d2, as2, r2, l2⟩ := m2 x y
        exact ⟨d2, as2, r2, Nat.le_trans l2 (Nat.le_max_right _ _)⟩
    · simp only [PyData.depthAll, PyData.shownAll]
      exact .cons ((k1.more fun x hx => List.mem_append_left _ hx).level_le (Nat.le_max_left _ _)) (k2.more_le (fun x hx => List.mem_append_right _ hx) (Nat.le_max_right _ _))
end
theorem callReprZ {A : Around} {E : Value → Shared → Prop} {s : Shared} {Q : Value → Shared → Prop} {a : Addr} {d : PyData} (r : Rz s.heap (.ref a) d) (hs : d.showable = true) (hg : A.guards = some []) (hu : A.units + (d.depth + 1) < cLine)
    (hsz : d.shown.length ≤ sizeLine) (hQ : ∀ h' u tk, (∀ b o, s.heap.get? b = some o → h'.get? b = some o) → Q (.str d.shown u) { s with heap := h', toks := tk }) : wpAny (model prog w) A (call (.builtin "repr") [.ref a]) Q E s := by
  have hu1 : A.in1.units + d.depth < cLine := by (show A.units + 1 + d.depth < cLine; omega)
  cases r with
  | @lst _ o vs n xs e c q r =>
    have sm : (listText (PyData.shownAll xs)).length ≤ sizeLine := by (simpa only [PyData.shown] using hsz)
    obtain ⟨bs, hb, hk⟩ := repZA (prog := prog) (w := w) r (by simpa [PyData.showable] using hs) (fun t ht => Nat.le_trans (listText_mem_le ht) sm)
    obtain ⟨_, rd⟩ := RzA.reads r
    have na : a ∉ bs := not_mem_of_deeper (.list e c q rd) (by (simp only [PyData.depth]; omega)) hb
    simp only [PyData.depth] at hu1
    simp only [PyData.shown] at hQ
    refine call_repr_slot (by omega) ⟨o, e, c⟩ PySem.F.slot_list_repr.toG ?_
    obtain ⟨l⟩ := vs
    cases l with
    | nil =>
      have r' : RzA s.heap [] xs := r
      cases r'
      simp only [PyData.shownAll, listText_nil] at hQ
      exact call_list_repr_empty ⟨o, e, c⟩ e q ⟨_, _, rfl, hQ s.heap _ _ fun _ _ z => z⟩
    | cons x l => exact call_list_reprK e c q na (by simpa using hk.length_eq) (fun i y z => hk.item i y (by simpa using z)) hg (fun b _ => Clear.nil b) hu1 (fun _ _ z => z) (fun h' u tk hk => ⟨_, _, rfl, hQ h' u tk hk⟩) sm
  | @tup _ o vs n xs e c q r =>
    have sm : (tupleText (PyData.shownAll xs)).length ≤ sizeLine := by (simpa only [PyData.shown] using hsz)
    obtain ⟨bs, hb, hk⟩ := repZA (prog := prog) (w := w) r (by simpa [PyData.showable] using hs) (fun t ht => Nat.le_trans (tupleText_mem_le ht) sm)
    obtain ⟨_, rd⟩ := RzA.reads r
    have na : a ∉ bs := not_mem_of_deeper (.tuple e c q rd) (by (simp only [PyData.depth]; omega)) hb
    simp only [PyData.depth] at hu1
    simp only [PyData.shown] at hQ
    exact call_repr_slot (by omega) ⟨o, e, c⟩ PySem.F.slot_tuple_repr (call_tuple_reprK e c q na hk hg (fun b _ => Clear.nil b) hu1 (fun _ _ z => z) (fun h' u tk hk => ⟨_, _, rfl, hQ h' u tk hk⟩) sm)
  | @dct _ o n e c q ns =>
    simp only [PyData.depth] at hu1
    simp only [PyData.shown, PyData.shownKv_eq] at hQ hsz
    exact call_repr_slot (by omega) ⟨o, e, c⟩ PySem.F.slot_dict_repr (call_dict_reprK (as := []) e c q ns (by simp) (ReprEntriesK.of_two [] _ _ .nil .nil) hg (fun b _ => Clear.nil b) hu1 (fun _ _ z => z) (fun h' u tk hk => ⟨_, _, rfl, hQ h' u tk hk⟩) hsz)
end
mutual
inductive Dz (K : PySem.W.Frag) (H : Hp) : V → PyData → Prop
  | non : Dz K H .non .none
  | bl (b : Bool) : Dz K H (.bl b) (.bool b)
  | int (i : Int) : Dz K H (.int i) (.int i)
  | str (x : Str) : Dz K H (.str x) (.str x)
  | lst {a : Addr} {xs : List V} {ds : List PyData} : SqL K H a xs → DzA K H xs ds → Dz K H (.ref a) (.list ds)
  | tup {a : Addr} {xs : List V} {ds : List PyData} : SqT K H a xs → DzA K H xs ds → Dz K H (.ref a) (.tuple ds)
  | dct {a : Addr} : H a = some (.dK []) → Dz K H (.ref a) (.dict [])
inductive DzA (K : PySem.W.Frag) (H : Hp) : List V → List PyData → Prop
  | nil : DzA K H [] []
  | cons {v : V} {vs : List V} {d : PyData} {ds : List PyData} : Dz K H v d → DzA K H vs ds → DzA K H (v :: vs) (d :: ds)
end
section
variable {X : Cx} {pins : List (Addr × Obj)} {σ : L2.St} {H : Hp} {s : Shared}
mutual
theorem Dz.rz (I : L2.Inv X pins σ H s) : ∀ (d : PyData) (v : V) (u : Value), Dz X.K H v d → RelV v u → Rz s.heap u d
  | .none, _, _, h, r => by cases h; cases r; exact .non
  | .bool b, _, _, h, r => by cases h; cases r; exact .bl b
  | .int i, _, _, h, r => by
    cases h
    obtain ⟨t, rfl⟩ := r
    exact .int i t
  | .str x, _, _, h, r => by
    cases h
    obtain ⟨t, rfl⟩ := r
    exact .str x t
  | .list ds, _, _, h, r => by
    cases h with
    | lst hs ha =>
      cases r
      obtain ⟨its, rv, ⟨o, n, ho, hc, _, hd⟩, _⟩ := I.list hs
      exact .lst ho hc hd (Dz.rzA I ds _ its ha rv)
  | .tuple ds, _, _, h, r => by
    cases h with
    | tup hs ha =>
      cases r
      obtain ⟨its, rv, ⟨o, ho, hc, n, hd⟩, _⟩ := I.tuple hs
      exact .tup ho hc hd (Dz.rzA I ds _ its ha rv)
  | .dict [], _, _, h, r => by
    cases h with
    | dct ha =>
      cases r
      obtain ⟨_, ns, vs, kv, o, es, ep, e, xd, ed, _, el, _⟩ := I.hok _ _ ha
      cases kv
      have z := el.length
      have : es = #[] := by (apply Array.toList_inj.mp; exact List.length_eq_zero_iff.mp z)
      subst this
      exact .dct e xd.1 ed ns
  | .dict (_ :: _), _, _, h, _ => by cases h
theorem Dz.rzA (I : L2.Inv X pins σ H s) : ∀ (ds : List PyData) (vs : List V) (us : List Value), DzA X.K H vs ds → Vals vs us → RzA s.heap us ds
  | [], _, _, h, r => by cases h; cases r; exact .nil
  | d :: ds, _, _, h, r => by
    cases h with
    | cons h1 h2 =>
      cases r with
      | cons r1 r2 => exact .cons (Dz.rz I d _ _ h1 r1) (Dz.rzA I ds _ _ h2 r2)
end
end
mutual
def toPz (h : AH) : Nat → D → Option PyData
  | 0, _ => none
  | n + 1, d => match d with
    | .non => some .none
    | .bl b => some (.bool b)
    | .int i => some (.int i)
    | .str x => some (.str x)
    | .tup xs => (toPzs h n xs).map .tuple
    | .fz xs => (toPzs h n xs).map .list
    | .ref m => match h[m]? with | some (.lst xs) => (toPzs h n xs).map .list | some (.dct []) => some (.dict []) | _ => none
    | .exc _ _ _ => none
def toPzs (h : AH) : Nat → List D → Option (List PyData)
  | 0, _ => none
  | _ + 1, [] => some []
  | n + 1, x :: xs => match toPz h (n + 1) x, toPzs h (n + 1) xs with | some d, some ds => some (d :: ds) | _, _ => none
end
mutual
theorem toPz_dz {K : PySem.W.Frag} {ρ : List Addr} {h : AH} {H : Hp} (rh : RH K ρ h H) : ∀ (n : Nat) (d : D) (v : V) (p : PyData), toPz h n d = some p → RV K ρ H d v → Dz K H v p
  | 0, _, _, _, e, _ => by simp [toPz] at e
  | n + 1, .non, _, _, e, r => by simp [toPz] at e; subst e; cases r; exact .non
  | n + 1, .bl b, _, _, e, r => by simp [toPz] at e; subst e; cases r; exact .bl b
  | n + 1, .int i, _, _, e, r => by simp [toPz] at e; subst e; cases r; exact .int i
  | n + 1, .str x, _, _, e, r => by simp [toPz] at e; subst e; cases r; exact .str x
  | n + 1, .tup xs, _, _, e, r => by
    simp only [toPz, Option.map_eq_some_iff] at e
    obtain ⟨ds, e, rfl⟩ := e
    cases r with
    | tup hs r => exact .tup hs (toPzs_dz rh n xs _ ds e r)
  | n + 1, .exc _ _ _, _, _, e, _ => by simp [toPz] at e
  | n + 1, .fz xs, _, _, e, r => by
    simp only [toPz, Option.map_eq_some_iff] at e
    obtain ⟨ds, e, rfl⟩ := e
    cases r with
    | fz hs r => exact .lst hs.sq (toPzs_dz rh n xs _ ds e r)
  | n + 1, .ref m, _, _, e, r => by
    simp only [toPz] at e
    split at e
    · rename_i xs q
      simp only [Option.map_eq_some_iff] at e
      obtain ⟨ds, e, rfl⟩ := e
      cases r with
      | ref hr =>
        obtain ⟨ys, hy, ry⟩ := rh.ob _ _ _ q hr
        exact .lst (SqL.of hy) (toPzs_dz rh n xs _ ds e ry)
    · rename_i q
      cases e
      cases r with
      | ref hr =>
        obtain ⟨ys, hy, ry⟩ := rh.ob _ _ _ q hr
        cases ry
        exact .dct hy
    · cases e
theorem toPzs_dz {K : PySem.W.Frag} {ρ : List Addr} {h : AH} {H : Hp} (rh : RH K ρ h H) : ∀ (n : Nat) (ds : List D) (vs : List V) (ps : List PyData), toPzs h n ds = some ps → RVs K ρ H ds vs → DzA K H vs ps
  | 0, _, _, _, e, _ => by simp [toPzs] at e
  | n + 1, [], _, _, e, r => by simp [toPzs] at e; subst e; cases r; exact .nil
  | n + 1, x :: xs, _, _, e, r => by
    simp only [toPzs] at e
    split at e
    · rename_i d ds e1 e2
      cases e
      cases r with
      | cons r1 r2 => exact .cons (toPz_dz rh (n + 1) x _ d e1 r1) (toPzs_dz rh (n + 1) xs _ ds e2 r2)
    · cases e
end
section
variable {X : Cx}
def bReprZ : BF := fun xs h => match xs with
  | [x] => match toPz h deep x with
    | some d => if d.showable = true ∧ d.depth ≤ 60 ∧ d.shown.length ≤ sizeLine then .ok (.str d.shown) h else .bad
    | none => .bad
  | _ => .bad
def rReprZ (K : PySem.W.Frag) : List V → Hp → VK → Prop := fun xs H Q => ∃ x d, xs = [x] ∧ Dz K H x d ∧ d.showable = true ∧ d.depth ≤ 60 ∧ d.shown.length ≤ sizeLine ∧ Q (.str d.shown) H
theorem call_reprZ (hg : X.A.guards = some []) (hu : X.A.units + 64 < cLine) : CallR X (.builtin "repr") (rReprZ X.K) := by
  intro pins s σ H xs us Q I r h
  obtain ⟨x, d, rfl, hd, hs, hdp, hz, q⟩ := h
  obtain ⟨u, rfl, ru⟩ := vals1 r
  have rd := Dz.rz I d x u hd ru
  have fin : ∀ h' t tk, (∀ b o, s.heap.get? b = some o → h'.get? b = some o) → EP X pins σ Q (.str d.shown t) { s with heap := h', toks := tk } := fun h' t tk hk => ⟨.str d.shown, H, I.kept hk, ⟨t, rfl⟩, q⟩
  cases rd with
  | non => exact PySem.P.repr_of_none (fin s.heap _ _ fun _ _ e => e)
  | bl b => exact PySem.P.repr_of_bool (fin s.heap _ _ fun _ _ e => e)
  | int i t => exact PySem.P.repr_of_int (by simpa [PyData.showable] using hs) (fin s.heap _ _ fun _ _ e => e)
  | str y t => exact PySem.P.repr_of_str (fin s.heap _ _ fun _ _ e => e) hz
  | lst e1 e2 e3 e4 => exact callReprZ (.lst e1 e2 e3 e4) hs hg (by omega) hz fin
  | tup e1 e2 e3 e4 => exact callReprZ (.tup e1 e2 e3 e4) hs hg (by omega) hz fin
  | dct e1 e2 e3 e4 => exact callReprZ (.dct e1 e2 e3 e4) hs hg (by omega) hz fin
theorem sp_reprZ {K : PySem.W.Frag} : CallS K bReprZ (rReprZ K) := by
  intro ρ h H xs ys v h' Q rh rx e k
  unfold bReprZ at e
  split at e
  · split at e
    · rename_i d q
      split at e
      · rename_i c
        cases e
        cases rx with
        | cons a b =>
          cases b
          exact ⟨_, d, rfl, toPz_dz rh _ _ _ _ q a, c.1, c.2.1, c.2.2, k ρ _ H Ext.refl rh (.str _)⟩
      · cases e
    · cases e
  · cases e
theorem se_reprZ {j : Nat} {e : Expr} {f : AF} {p pos : Pos} (hr : Room j X.A) (hm : X.mg "repr" = none) (ha : SA X [e] f) (hg : Gl X "repr" := by rfl) (he : starEach [e] X.env = (false, eval e X.env) :: starEach [] X.env := by rfl) (hpl : (backTo pos (starEach [] X.env)).any (·.1) = false := by rfl) :
    SE X (.Call (.Name "repr" p) [e] [] pos) (eApp bReprZ f) :=
  se_bi (call_reprZ hr.gd hr.units) sp_reprZ hm (by decide +kernel) ha hg (by decide +kernel) (by decide +kernel) he hpl
end
end EV
namespace EV
open PySem PySem.Spec PyProof.Rows L2
end EV
set_option Elab.async false
set_option linter.all false
set_option autoImplicit false
set_option maxRecDepth 100000
namespace EV
open PySem PySem.Spec PyProof.Rows L2
section
variable {X : Cx}
def truD (x : D) (h : AH) : Option Bool := match x with
  | .non => some false
  | .bl b => some b
  | .int i => some (i != 0)
  | .tup xs => some (!xs.isEmpty)
  | .fz xs => some (!xs.isEmpty)
  | .ref n => match h[n]? with | some (.lst xs) => some (!xs.isEmpty) | _ => none
  | _ => none
end
end EV
set_option Elab.async false
set_option linter.all false
set_option autoImplicit false
set_option maxRecDepth 100000
namespace EV
open PySem PySem.Spec PyProof.Rows L2
section
variable {X : Cx}
end
end EV
set_option Elab.async false
set_option linter.all false
set_option autoImplicit false
set_option maxRecDepth 100000
namespace EV
open PySem PySem.Spec PyProof.Rows L2
section
variable {X : Cx} {tg : Expr}
theorem SG.mono {ws ws' : List Nat} {g : GF} (h : SG X tg ws g) (s : ∀ i ∈ ws, i ∈ ws') : SG X tg ws' g := ⟨PG.of h.out fun v σ H Q q => by
  obtain ⟨ρ, σa, h, d, σa', h', rh, rs, rv, e, k⟩ := q
  exact ⟨ρ, σa, h, d, σa', h', rh, rs, rv, e, fun ρ' σ' H' p rh' rs' o => k ρ' σ' H' p rh' rs' ⟨o.len, fun i hi => o.eq i fun z => hi (s i z)⟩⟩⟩
end
end EV
set_option Elab.async false
set_option linter.all false
set_option autoImplicit false
set_option maxRecDepth 100000
namespace EV
open PySem L2
theorem cut_len {h h' : AH} {v : D} (e : h'.length = h.length) : cut h h' v = h' := by
  unfold cut
  split
  · rw [← e, List.take_length]
  · rfl
theorem cut_app {h h1 g : AH} {v : D} (e : h1.length = h.length) (hv : below h.length v = true) (ho : ∀ i, i < h.length → h1[i]? = h[i]? ∨ ∃ o, h1[i]? = some o ∧ belowO h.length o = true) : cut h (h1 ++ g) v = h1 := by
  have c : Clean h (h1 ++ g) v := ⟨hv, fun i hi => by rw [List.getElem?_append_left (by omega)]; exact ho i hi⟩
  unfold cut
  rw [if_pos c, ← e]
  exact List.take_left
theorem few_of {i : Int} {k : Nat} (hk : k ≤ 2 ^ 20) (h : i.natAbs < 2 ^ k) : Few i := by
  unfold Few Builtin.Int.intBits
  split
  · exact Nat.zero_le _
  · rename_i h0
    have hn : i.natAbs ≠ 0 := by
      intro z
      apply h0
      simp; omega
    have := (Nat.log2_lt hn).mpr h
    omega
theorem oMul_l {i j : Int} {h : AH} (h1 : -18446744073709551616 < i) (h2 : i < 18446744073709551616) : oMul (.int i) (.int j) h = .ok (.int (i * j)) h := by
  unfold oMul oI
  exact if_pos (.inl (.inl ⟨h1, h2⟩))
theorem oMul_r {i j : Int} {h : AH} (h1 : -18446744073709551616 < j) (h2 : j < 18446744073709551616) : oMul (.int i) (.int j) h = .ok (.int (i * j)) h := by
  unfold oMul oI
  exact if_pos (.inl (.inr ⟨h1, h2⟩))
theorem log2_9000 {n : Nat} (h : n < 2 ^ 9000) : n.log2 < 9000 := by
  rcases Nat.eq_zero_or_pos n with rfl | hp
  · decide
  · exact (Nat.log2_lt (Nat.ne_of_gt hp)).mpr h
theorem oFdiv_b {i j : Int} {h : AH} (h1 : 0 < j) (h2 : j.natAbs < 2 ^ 9000) : oFdiv (.int i) (.int j) h = .ok (.int (i / j)) h := by
  unfold oFdiv oI
  show (if CDivF i j then R.ok (D.int (i.fdiv j)) h else .bad) = _
  rw [if_pos ⟨by omega, log2_9000 h2⟩, Int.fdiv_eq_ediv_of_nonneg _ (by omega)]
theorem pow64_9000 : (2 : Nat) ^ 64 ≤ 2 ^ 9000 := Nat.pow_le_pow_right (by decide) (by decide)
theorem oFdiv_p {i j : Int} {h : AH} (h1 : 0 < j) (h2 : j < 18446744073709551616) : oFdiv (.int i) (.int j) h = .ok (.int (i / j)) h :=
  oFdiv_b h1 (Nat.lt_of_lt_of_le (by show j.natAbs < 2 ^ 64; omega) pow64_9000)
theorem oMod_p {i j : Int} {h : AH} (h1 : 0 < j) : oMod (.int i) (.int j) h = .ok (.int (i % j)) h := by
  unfold oMod oI
  show (if j ≠ 0 then R.ok (D.int (i.fmod j)) h else .bad) = _
  rw [if_pos (by omega), Int.fmod_eq_emod_of_nonneg _ (by omega)]
theorem oPow_s {i j : Int} {h : AH} (h0 : 0 ≤ j) (h1 : j ≤ 1000000) (h2 : i.natAbs < 18446744073709551616) : oPow (.int i) (.int j) h = .ok (.int (i ^ j.toNat)) h := by
  unfold oPow oI
  exact if_pos ⟨h0, h1, h2⟩
theorem oSub_i {i j : Int} {h : AH} : oSub (.int i) (.int j) h = .ok (.int (i - j)) h := id rfl
theorem oLt_i {i j : Int} {h : AH} : oLt (.int i) (.int j) h = .ok (.bl (decide (i < j))) h := id rfl
theorem oLe_i {i j : Int} {h : AH} : oLe (.int i) (.int j) h = .ok (.bl (decide (i ≤ j))) h := id rfl
theorem oGt_i {i j : Int} {h : AH} : oGt (.int i) (.int j) h = .ok (.bl (decide (j < i))) h := id rfl
theorem oGe_i {i j : Int} {h : AH} : oGe (.int i) (.int j) h = .ok (.bl (decide (j ≤ i))) h := id rfl
theorem eBin_d {o : Op2} {f g : EF} {σ : Fr} {h : AH} : eBin o f g σ h = (f σ h).bind fun x h1 => (g σ h1).bind fun y h2 => o x y h2 := id rfl
theorem eK_d {d : D} {σ : Fr} {h : AH} : eK d σ h = .ok d h := id rfl
theorem eVar_d {i : Nat} {σ : Fr} {h : AH} : eVar i σ h = match σ[i]? with | some (some d) => .ok d h | _ => .bad := id rfl
theorem eVar_k {i : Nat} {σ : Fr} {h : AH} {d : D} (e : σ[i]? = some (some d)) : eVar i σ h = .ok d h := by simp only [eVar, e]
theorem aCons_d {f : EF} {g : AF} {σ : Fr} {h : AH} : aCons f g σ h = (f σ h).bind fun x h1 => (g σ h1).bind fun xs h2 => .ok (x :: xs) h2 := id rfl
theorem aNil_d {σ : Fr} {h : AH} : aNil σ h = .ok [] h := id rfl
theorem eApp_d {o : BF} {f : AF} {σ : Fr} {h : AH} : eApp o f σ h = (f σ h).bind fun xs h1 => o xs h1 := id rfl
theorem sSeq_d {f g : SF} {σ : Fr} {h : AH} : sSeq f g σ h = (f σ h).bind fun fl h1 => match fl with | .next σ1 => g σ1 h1 | fl => .ok fl h1 := id rfl
theorem sSet_d {i : Nat} {f : EF} {σ : Fr} {h : AH} : sSet i f σ h = (f σ h).bind fun x h1 => .ok (.next (σ.set i (some x))) h1 := id rfl
theorem sRet_d {f : EF} {σ : Fr} {h : AH} : sRet f σ h = (f σ h).bind fun x h1 => .ok (.ret x) h1 := id rfl
theorem sExpr_d {f : EF} {σ : Fr} {h : AH} : sExpr f σ h = (f σ h).bind fun _ h1 => .ok (.next σ) h1 := id rfl
theorem sIf_d {c : TF} {f g : SF} {σ : Fr} {h : AH} : sIf c f g σ h = (c σ h).bind fun b h1 => if b = true then f σ h1 else g σ h1 := id rfl
theorem sNext_d {σ : Fr} {h : AH} : sNext σ h = .ok (.next σ) h := id rfl
theorem tB_d {f : EF} {σ : Fr} {h : AH} : tB f σ h = (f σ h).bind fun x h1 => match x with | .bl b => .ok b h1 | _ => .bad := id rfl
theorem sPut_d {fo fi fv : EF} {σ : Fr} {h : AH} : sPut fo fi fv σ h = (fv σ h).bind fun v h1 => (fo σ h1).bind fun o h2 => (fi σ h2).bind fun i h3 => (setD o i v h3).bind fun _ h4 => .ok (.next σ) h4 := id rfl
theorem bAbs_i {i : Int} {h : AH} : bAbs [.int i] h = .ok (.int (if i < 0 then -i else i)) h := id rfl
theorem oIx_ref {n : Nat} {y : D} {h : AH} {xs : List D} (e : h[n]? = some (.lst xs)) : oIx (.ref n) y h = seqAt xs y h := by simp only [oIx, e]
theorem seqAt_n {xs : List D} {i : Int} {h : AH} {v : D} (h0 : 0 ≤ i) (e : xs[i.toNat]? = some v) : seqAt xs (.int i) h = .ok v h := by
  have hl : i.toNat < xs.length := (List.getElem?_eq_some_iff.mp e).1
  have : atI xs i = some v := by
    unfold atI ixN
    rw [if_pos h0, if_pos (by omega)]
    exact e
  simp only [seqAt, this]
theorem bLen_lst {n : Nat} {h : AH} {xs : List D} (e : h[n]? = some (.lst xs)) : bLen [.ref n] h = .ok (.int xs.length) h := by simp only [bLen, seqOf, e]
theorem tAnd2_d {f g : TF} {σ : Fr} {h : AH} : tAnd2 f g σ h = (f σ h).bind fun b h1 => if b = true then g σ h1 else .ok false h1 := id rfl
theorem tOr2_d {f g : TF} {σ : Fr} {h : AH} : tOr2 f g σ h = (f σ h).bind fun b h1 => if b = true then .ok true h1 else g σ h1 := id rfl
theorem tNot1_d {f : TF} {σ : Fr} {h : AH} : tNot1 f σ h = (f σ h).bind fun b h1 => .ok (!b) h1 := id rfl
theorem eAnd2_d {f g : EF} {σ : Fr} {h : AH} : eAnd2 f g σ h = (f σ h).bind fun x h1 => match x with | .bl true => g σ h1 | .bl false => .ok (.bl false) h1 | _ => .bad := id rfl
theorem eNot1_d {f : EF} {σ : Fr} {h : AH} : eNot1 f σ h = (f σ h).bind fun x h1 => match x with | .bl b => .ok (.bl (!b)) h1 | _ => .bad := id rfl
theorem eNeg_d {f : EF} {σ : Fr} {h : AH} : eNeg f σ h = (f σ h).bind fun x h1 => match x with | .int i => .ok (.int (-i)) h1 | _ => .bad := id rfl
theorem eLst_d {f : AF} {σ : Fr} {h : AH} : eLst f σ h = (f σ h).bind fun xs h1 => if xs.length ≤ sizeLine then newL xs h1 else .bad := id rfl
theorem eTup_d {f : AF} {σ : Fr} {h : AH} : eTup f σ h = (f σ h).bind fun xs h1 => if xs.length ≤ sizeLine then .ok (.tup xs) h1 else .bad := id rfl
theorem eMt_d {o : MF} {f : EF} {g : AF} {σ : Fr} {h : AH} : eMt o f g σ h = (f σ h).bind fun x h1 => if isLst x h1 = true then (g σ h1).bind fun xs h2 => o x xs h2 else .bad := id rfl
theorem eIsi_d {c : Ty} {f : EF} {σ : Fr} {h : AH} : eIsi c f σ h = (f σ h).bind fun x h1 => match tyD x h1 with | some t => .ok (.bl (isSub t c)) h1 | none => .bad := id rfl
theorem eAppK_d {F : BF} {is : List Nat} {a b : Nat} {f g : AF} {σ : Fr} {h : AH} : eAppK F is a b f g σ h = (f σ h).bind fun xs h1 => (g σ h1).bind fun ys h2 => if xs.length = a ∧ ys.length = b then F (sel is (xs ++ ys)) h2 else .bad := id rfl
theorem oNone_d {σ : Fr} {h : AH} : oNone σ h = .ok none h := id rfl
theorem oSome_d {f : EF} {σ : Fr} {h : AH} : oSome f σ h = (f σ h).bind fun x h1 => match x with | .int i => .ok (some i) h1 | _ => .bad := id rfl
theorem sPar_d {i j : Nat} {f : AF} {σ : Fr} {h : AH} : sPar i j f σ h = (f σ h).bind fun xs h1 => match xs with | [x, y] => .ok (.next ((σ.set i (some x)).set j (some y))) h1 | _ => .bad := id rfl
theorem sAsg_d {f : EF} {g : GF} {σ : Fr} {h : AH} : sAsg f g σ h = (f σ h).bind fun x h1 => (g x σ h1).bind fun σ1 h2 => .ok (.next σ1) h2 := id rfl
theorem eChain_d {o o' : Op2} {f g k : EF} {σ : Fr} {h : AH} : eChain o o' f g k σ h = (f σ h).bind fun x h1 => (g σ h1).bind fun y h2 => (o x y h2).bind fun z h3 => match z with
  | .bl true => (k σ h3).bind fun w h4 => o' y w h4
  | .bl false => .ok (.bl false) h3
  | _ => .bad := id rfl
theorem seq_n {f g : SF} {σ σ1 : Fr} {h h1 : AH} (e : f σ h = .ok (.next σ1) h1) : sSeq f g σ h = g σ1 h1 := by rw [sSeq_d, e, bind_ok]
theorem seq_r {f g : SF} {σ : Fr} {h h1 : AH} {v : D} (e : f σ h = .ok (.ret v) h1) : sSeq f g σ h = .ok (.ret v) h1 := by rw [sSeq_d, e, bind_ok]
theorem set_n {i : Nat} {f : EF} {σ : Fr} {h h1 : AH} {x : D} (e : f σ h = .ok x h1) : sSet i f σ h = .ok (.next (σ.set i (some x))) h1 := by rw [sSet_d, e, bind_ok]
theorem ret_n {f : EF} {σ : Fr} {h h1 : AH} {x : D} (e : f σ h = .ok x h1) : sRet f σ h = .ok (.ret x) h1 := by rw [sRet_d, e, bind_ok]
theorem if_t {c : TF} {f g : SF} {σ : Fr} {h h1 : AH} (e : c σ h = .ok true h1) : sIf c f g σ h = f σ h1 := by rw [sIf_d, e, bind_ok, if_pos rfl]
theorem if_f {c : TF} {f g : SF} {σ : Fr} {h h1 : AH} (e : c σ h = .ok false h1) : sIf c f g σ h = g σ h1 := by rw [sIf_d, e, bind_ok, if_neg Bool.false_ne_true]
theorem if_fn {c : TF} {f : SF} {σ : Fr} {h h1 : AH} (e : c σ h = .ok false h1) : sIf c f sNext σ h = .ok (.next σ) h1 := by rw [if_f e, sNext_d]
theorem mkFn_ret {np n : Nat} {b : SF} {ds : List D} {h h' : AH} {v : D} (hl : ds.length = np) (e : b (startD n ds) h = .ok (.ret v) h') : mkFn np n b ds h = .ok v (cut h h' v) := by
  unfold mkFn
  rw [if_pos hl, e]
end EV
set_option Elab.async false
set_option linter.all false
set_option autoImplicit false
set_option maxRecDepth 100000
namespace EV
open PySem L2
theorem toPs_ints {h : AH} {n : Nat} : ∀ is : List Int, toPs h (n + 1) (is.map D.int) = some (is.map PyData.int)
  | [] => by simp only [List.map_nil, toPs]
  | i :: is => by
    simp only [List.map_cons, toPs, toP]
    rw [toPs_ints is]
theorem depth_ints : ∀ is : List Int, PyData.depthAll (is.map PyData.int) = 0
  | [] => rfl
  | i :: is => by simp only [List.map_cons, PyData.depthAll, PyData.depth, depth_ints is]; rfl
end EV
set_option Elab.async false
set_option linter.all false
set_option autoImplicit false
set_option maxRecDepth 100000
namespace EV
open PySem L2
def sh (q : Rat) : D := .tup [.int q.num, .int q.den]
structure Sz (k : Nat) (q : Rat) : Prop where
  num : q.num.natAbs < 2 ^ k
  den : q.den < 2 ^ k
theorem Sz.mono {j k : Nat} {q : Rat} (s : Sz j q) (h : j ≤ k) : Sz k q :=
  ⟨Nat.lt_of_lt_of_le s.num (Nat.pow_le_pow_right (by decide) h), Nat.lt_of_lt_of_le s.den (Nat.pow_le_pow_right (by decide) h)⟩
theorem gcd_pos' {a b : Int} (hb : b ≠ 0) : 0 < Int.gcd a b := Nat.pos_of_ne_zero fun h => hb (Int.gcd_eq_zero_iff.mp h).2
theorem divInt_num {a b : Int} (hb : b ≠ 0) : (Rat.divInt a b).num = b.sign * (a / (Int.gcd a b : Int)) := by
  rw [Rat.num_divInt, Int.gcd_comm b a, Int.mul_ediv_assoc _ (Int.gcd_dvd_left a b)]
theorem divInt_den {a b : Int} (hb : b ≠ 0) : (Rat.divInt a b).den = b.natAbs / Int.gcd a b := by
  rw [Rat.den_divInt, if_neg hb, Int.gcd_comm]
theorem Sz.divInt {k : Nat} {a b : Int} (hb : b ≠ 0) (ha : a.natAbs < 2 ^ k) (hb2 : b.natAbs < 2 ^ k) : Sz k (Rat.divInt a b) := by
  have g := gcd_pos' (a := a) hb
  constructor
  · rw [divInt_num hb, Int.natAbs_mul]
    have h1 : b.sign.natAbs = 1 := by
      rcases Int.lt_trichotomy b 0 with h | h | h
      · rw [Int.sign_eq_neg_one_of_neg h]; rfl
      · exact absurd h hb
      · rw [Int.sign_eq_one_of_pos h]; rfl
    rw [h1, Nat.one_mul]
    rw [Int.natAbs_ediv_of_dvd (Int.gcd_dvd_left a b)]
    have := Nat.div_le_self a.natAbs (Int.natAbs (Int.gcd a b : Int))
    omega
  · rw [divInt_den hb]
    have := Nat.div_le_self b.natAbs (Int.gcd a b)
    omega
theorem mul_lt_pow {a b k l : Nat} (ha : a < 2 ^ k) (hb : b < 2 ^ l) : a * b < 2 ^ (k + l) := by
  rw [Nat.pow_add]
  rcases Nat.eq_zero_or_pos b with h | h
  · subst h; rw [Nat.mul_zero]; exact Nat.mul_pos (Nat.two_pow_pos k) (Nat.two_pow_pos l)
  · exact Nat.mul_lt_mul_of_lt_of_le ha (Nat.le_of_lt hb) (Nat.two_pow_pos l)
theorem add_lt_pow {a b k : Nat} (ha : a < 2 ^ k) (hb : b < 2 ^ k) : a + b < 2 ^ (k + 1) := by
  rw [Nat.pow_succ]; omega
theorem pow_le {j k : Nat} (h : j ≤ k) : (2 : Nat) ^ j ≤ 2 ^ k := Nat.pow_le_pow_right (by decide) h
theorem add_is (p q : Rat) : p + q = Rat.divInt (p.num * q.den + q.num * p.den) (p.den * q.den) := by
  have := Rat.divInt_add_divInt p.num q.num (d₁ := p.den) (d₂ := q.den) (by have := p.den_nz; omega) (by have := q.den_nz; omega)
  rwa [Rat.num_divInt_den, Rat.num_divInt_den] at this
theorem mul_is (p q : Rat) : p * q = Rat.divInt (p.num * q.num) (p.den * q.den) := by
  have := Rat.divInt_mul_divInt p.num q.num (d₁ := p.den) (d₂ := q.den)
  rwa [Rat.num_divInt_den, Rat.num_divInt_den] at this
theorem den_ne (p q : Rat) : ((p.den : Int) * (q.den : Int)) ≠ 0 := by
  have h1 := p.den_nz
  have h2 := q.den_nz
  exact Int.mul_ne_zero (by omega) (by omega)
theorem Sz.add {k l : Nat} {p q : Rat} (a : Sz k p) (b : Sz l q) : Sz (k + l + 1) (p + q) := by
  rw [add_is]
  refine Sz.divInt (den_ne p q) ?_ ?_
  · have h1 : (p.num * (q.den : Int)).natAbs < 2 ^ (k + l) := by rw [Int.natAbs_mul]; exact mul_lt_pow a.num b.den
    have h2 : (q.num * (p.den : Int)).natAbs < 2 ^ (k + l) := by rw [Int.natAbs_mul, Nat.add_comm k l]; exact mul_lt_pow b.num a.den
    have h3 := Int.natAbs_add_le (p.num * (q.den : Int)) (q.num * (p.den : Int))
    have := add_lt_pow h1 h2
    omega
  · rw [Int.natAbs_mul]
    exact Nat.lt_of_lt_of_le (mul_lt_pow a.den b.den) (pow_le (by omega))
theorem Sz.mul {k l : Nat} {p q : Rat} (a : Sz k p) (b : Sz l q) : Sz (k + l) (p * q) := by
  rw [mul_is]
  refine Sz.divInt (den_ne p q) ?_ ?_
  · rw [Int.natAbs_mul]; exact mul_lt_pow a.num b.num
  · rw [Int.natAbs_mul]; exact mul_lt_pow a.den b.den
theorem toP_int {h : AH} {i : Int} : toP h deep (.int i) = some (.int i) := by show toP h (39 + 1) (.int i) = _; simp only [toP]
theorem shaped_int {i : Int} : SeqAt.shaped (.int i) = true := rfl
theorem oNe_i {i j : Int} {h : AH} : oNe (.int i) (.int j) h = .ok (.bl (!(i == j))) h := by
  show dataOp _ (D.int i) (D.int j) h = _
  simp only [dataOp, toP_int]
  rw [if_pos ⟨shaped_int, shaped_int⟩]
  rfl
theorem oEq_i {i j : Int} {h : AH} : oEq (.int i) (.int j) h = .ok (.bl (i == j)) h := by
  show dataOp _ (D.int i) (D.int j) h = _
  simp only [dataOp, toP_int]
  rw [if_pos ⟨shaped_int, shaped_int⟩]
  rfl
theorem few_pow {i : Int} {k : Nat} (h : i.natAbs < 2 ^ k) (hk : k ≤ 1000000) : Few i := few_of (k := k) (by omega) h
theorem gcd_step (n m : Int) (hn : 0 ≤ n) (hm : 0 < m) : Int.gcd m (n % m) = Int.gcd n m := by
  unfold Int.gcd
  have : (n % m).natAbs = n.natAbs % m.natAbs := by
    rw [Int.natAbs_emod_of_nonneg hn]
  rw [this, Nat.gcd_comm, ← Nat.gcd_rec, Nat.gcd_comm]
theorem gcd_abs (a b : Int) : Int.gcd (if a < 0 then -a else a) (if b < 0 then -b else b) = Int.gcd a b := by
  split <;> split <;> simp
theorem gcd_lt {a b : Int} {k : Nat} (hb : b ≠ 0) (h : b.natAbs < 2 ^ k) : ((Int.gcd a b : Int)).natAbs < 2 ^ k := by
  have : Int.gcd a b ≤ b.natAbs := Nat.le_of_dvd (by omega) (Int.gcd_dvd_natAbs_right a b)
  omega
theorem div_num {a b : Int} (hb : b ≠ 0) : (Rat.divInt a b).num = if b < 0 then a / -(Int.gcd a b : Int) else a / (Int.gcd a b : Int) := by
  rw [divInt_num hb]
  split
  · rename_i h
    rw [Int.sign_eq_neg_one_of_neg h, Int.ediv_neg]; omega
  · rw [Int.sign_eq_one_of_pos (by omega), Int.one_mul]
theorem div_den {a b : Int} (hb : b ≠ 0) : ((Rat.divInt a b).den : Int) = if b < 0 then b / -(Int.gcd a b : Int) else b / (Int.gcd a b : Int) := by
  rw [divInt_den hb]
  split
  · rename_i h
    have hd : (Int.gcd a b : Int) ∣ b := Int.gcd_dvd_right a b
    rw [Int.ediv_neg]
    have e : b = -(b.natAbs : Int) := by omega
    obtain ⟨k, hk⟩ := hd
    have hg := gcd_pos' (a := a) hb
    have e2 : b / (Int.gcd a b : Int) = k := by
      conv => lhs; lhs; rw [hk]
      exact Int.mul_ediv_cancel_left _ (by omega)
    rw [e2]
    have e3 : b.natAbs = Int.gcd a b * k.natAbs := by
      have := congrArg Int.natAbs hk
      rw [Int.natAbs_mul] at this
      simpa using this
    rw [e3, Nat.mul_div_cancel_left _ hg]
    have hk0 : k < 0 := by
      apply Int.not_le.mp
      intro hk0
      have := Int.mul_nonneg (show (0 : Int) ≤ (Int.gcd a b : Int) by omega) hk0
      omega
    omega
  · rename_i h
    have e : b = (b.natAbs : Int) := by omega
    conv => rhs; lhs; rw [e]
    simp
structure SeqIs (x : D) (h : AH) (xs : List D) : Prop where
  ex : ∃ s, srcD x h = .ok s h ∧ s.items = xs ∧ s.chk h
theorem SeqIs.tup {h : AH} {xs : List D} : SeqIs (.tup xs) h xs := ⟨still xs, rfl, rfl, trivial⟩
theorem SeqIs.ref {h : AH} {n : Nat} {xs : List D} (e : h[n]? = some (.lst xs)) : SeqIs (.ref n) h xs := ⟨held n xs, by simp only [srcD, e], rfl, e⟩
def sumQ (qs : List Rat) : Rat := qs.foldl (· + ·) 0
theorem fold_take {α β : Type} {f : β → α → β} {z : β} {qs : List α} {i : Nat} {q : α} (e : qs[i]? = some q) : (qs.take (i + 1)).foldl f z = f ((qs.take i).foldl f z) q := by
  rw [List.take_add_one, e]
  simp
theorem Sz.one : Sz 1 1 := ⟨by decide, by decide⟩
theorem Sz.zero : Sz 1 0 := ⟨by decide, by decide⟩
theorem Sz.sum {k : Nat} {qs : List Rat} (hq : ∀ q ∈ qs, Sz k q) : ∀ i, i ≤ qs.length → Sz ((k + 1) * i + 1) (sumQ (qs.take i))
  | 0, _ => Sz.zero
  | i + 1, hi => by
    have e : qs[i]? = some qs[i] := List.getElem?_eq_getElem (by omega)
    unfold sumQ
    rw [fold_take e]
    exact ((Sz.sum hq i (by omega)).add (hq _ (List.getElem_mem _))).mono (by rw [Nat.mul_succ]; omega)
theorem divInt_same {a b c : Int} (hc : c ≠ 0) : Rat.divInt a c + Rat.divInt b c = Rat.divInt (a + b) c := by
  rw [Rat.divInt_add_divInt _ _ hc hc, ← Int.add_mul, Rat.divInt_mul_right hc]
def shP (q : Rat) : PyData := .tuple [.int q.num, .int q.den]
theorem log2_of {n k : Nat} (h : n < 2 ^ k) (hk : 0 < k) : n.log2 < k := by
  rcases Nat.eq_zero_or_pos n with rfl | hp
  · simpa using hk
  · exact (Nat.log2_lt (Nat.ne_of_gt hp)).mpr h
theorem weight_int {i : Int} {k : Nat} (h : i.natAbs < 2 ^ k) (hk : 0 < k) : PyData.weight (.int i) ≤ k := by
  simp only [PyData.weight]
  split
  · omega
  · have := log2_of h hk; omega
end EV
set_option Elab.async false
set_option linter.all false
set_option autoImplicit false
set_option maxRecDepth 100000
namespace EV
open PySem L2
theorem gSeq_d {n : Nat} {g : GFs} {d : D} {σ : Fr} {h : AH} : gSeq n g d σ h = match seqOf d h with | some xs => if xs.length = n then g xs σ h else .bad | none => .bad := id rfl
theorem gsCons_d {g : GF} {r : GFs} {d : D} {ds : List D} {σ : Fr} {h : AH} : gsCons g r (d :: ds) σ h = (g d σ h).bind fun σ1 h1 => r ds σ1 h1 := id rfl
theorem eqv_sh {p q : Rat} : PyData.eqv (shP p) (shP q) = decide (p = q) := by
  by_cases e : p = q
  · subst e
    rw [decide_eq_true rfl]
    simp [shP, PyData.eqv, PyData.eqvAll]
  · rw [decide_eq_false e]
    simp only [shP, PyData.eqv, PyData.eqvAll]
    apply Bool.eq_false_iff.mpr
    intro z
    apply e
    simp only [Bool.and_eq_true, Bool.and_true, beq_iff_eq, decide_eq_true_eq] at z
    exact Rat.ext z.1 (by omega)
theorem Sz.neg {k : Nat} {q : Rat} (s : Sz k q) : Sz k (-q) := ⟨by rw [Rat.neg_num, Int.natAbs_neg]; exact s.num, by rw [Rat.neg_den]; exact s.den⟩
theorem Sz.inv {k : Nat} {q : Rat} (s : Sz k q) (h : q ≠ 0) : Sz k q⁻¹ := by
  rw [Rat.inv_def]
  exact Sz.divInt (fun z => h (Rat.num_eq_zero.mp z)) (by simpa using s.den) s.num
theorem Sz.sub {k l : Nat} {p q : Rat} (a : Sz k p) (b : Sz l q) : Sz (k + l + 1) (p - q) := by rw [Rat.sub_eq_add_neg]; exact a.add b.neg
theorem sh_one : D.tup [.int 1, .int 1] = sh 1 := rfl
theorem lt_dec {p q : Rat} : decide (p.num * (q.den : Int) < q.num * (p.den : Int)) = decide (p < q) := by
  by_cases e : p < q
  · rw [decide_eq_true e, decide_eq_true ((Rat.lt_iff p q).mp e)]
  · rw [decide_eq_false e, decide_eq_false fun z => e ((Rat.lt_iff p q).mpr z)]
end EV
set_option Elab.async false
set_option linter.all false
set_option autoImplicit false
set_option maxRecDepth 100000
namespace EV
open PySem L2
end EV
set_option Elab.async false
set_option linter.all false
set_option autoImplicit false
set_option maxRecDepth 100000
namespace EV
open PySem L2
end EV
set_option Elab.async false
set_option linter.all false
set_option autoImplicit false
set_option maxRecDepth 100000
namespace EV
open PySem L2
def Still (h h' : AH) : Prop := ∀ (i : Nat) (o : AO), h[i]? = some o → ((∃ xs, o = .lst xs) ∨ o = .dct []) → h'[i]? = some o
mutual
theorem toPz_keep {h h' : AH} (k : Still h h') : ∀ (n : Nat) (d : D) (p : PyData), toPz h n d = some p → toPz h' n d = some p
  | 0, _, _, e => by simp [toPz] at e
  | n + 1, .non, _, e => by simp [toPz] at e ⊢; exact e
  | n + 1, .bl b, _, e => by simp [toPz] at e ⊢; exact e
  | n + 1, .int i, _, e => by simp [toPz] at e ⊢; exact e
  | n + 1, .str x, _, e => by simp [toPz] at e ⊢; exact e
  | n + 1, .tup xs, _, e => by
    simp only [toPz, Option.map_eq_some_iff] at e ⊢
    obtain ⟨ds, e, rfl⟩ := e
    exact ⟨ds, toPzs_keep k n xs ds e, rfl⟩
  | n + 1, .exc _ _ _, _, e => by simp [toPz] at e
  | n + 1, .fz xs, _, e => by
    simp only [toPz, Option.map_eq_some_iff] at e ⊢
    obtain ⟨ds, e, rfl⟩ := e
    exact ⟨ds, toPzs_keep k n xs ds e, rfl⟩
  | n + 1, .ref m, p, e => by
    simp only [toPz] at e ⊢
    split at e
    · rename_i xs q
      rw [k m _ q (.inl ⟨xs, rfl⟩)]
      simp only [Option.map_eq_some_iff] at e ⊢
      obtain ⟨ds, e, rfl⟩ := e
      exact ⟨ds, toPzs_keep k n xs ds e, rfl⟩
    · rename_i q
      rw [k m _ q (.inr rfl)]
      exact e
    · cases e
theorem toPzs_keep {h h' : AH} (k : Still h h') : ∀ (n : Nat) (ds : List D) (ps : List PyData), toPzs h n ds = some ps → toPzs h' n ds = some ps
  | 0, _, _, e => by simp [toPzs] at e
  | n + 1, [], _, e => by simp [toPzs] at e ⊢; exact e
  | n + 1, x :: xs, _, e => by
    simp only [toPzs] at e ⊢
    split at e
    · rename_i d ds e1 e2
      rw [toPz_keep k (n + 1) x d e1, toPzs_keep k (n + 1) xs ds e2]
      exact e
    · cases e
end
mutual
theorem toPz_more {h : AH} : ∀ (n : Nat) (d : D) (p : PyData), toPz h n d = some p → toPz h (n + 1) d = some p
  | 0, _, _, e => by simp [toPz] at e
  | n + 1, .non, _, e => by simp [toPz] at e ⊢; exact e
  | n + 1, .bl b, _, e => by simp [toPz] at e ⊢; exact e
  | n + 1, .int i, _, e => by simp [toPz] at e ⊢; exact e
  | n + 1, .str x, _, e => by simp [toPz] at e ⊢; exact e
  | n + 1, .tup xs, _, e => by
    simp only [toPz, Option.map_eq_some_iff] at e ⊢
    obtain ⟨ds, e, rfl⟩ := e
    exact ⟨ds, toPzs_more n xs ds e, rfl⟩
  | n + 1, .exc _ _ _, _, e => by simp [toPz] at e
  | n + 1, .fz xs, _, e => by
    simp only [toPz, Option.map_eq_some_iff] at e ⊢
    obtain ⟨ds, e, rfl⟩ := e
    exact ⟨ds, toPzs_more n xs ds e, rfl⟩
  | n + 1, .ref m, p, e => by
    simp only [toPz] at e ⊢
    split at e
    · rename_i xs q
      simp only [Option.map_eq_some_iff] at e ⊢
      obtain ⟨ds, e, rfl⟩ := e
      exact ⟨ds, toPzs_more n xs ds e, rfl⟩
    · exact e
    · cases e
theorem toPzs_more {h : AH} : ∀ (n : Nat) (ds : List D) (ps : List PyData), toPzs h n ds = some ps → toPzs h (n + 1) ds = some ps
  | 0, _, _, e => by simp [toPzs] at e
  | n + 1, [], _, e => by simp [toPzs] at e ⊢; exact e
  | n + 1, x :: xs, _, e => by
    simp only [toPzs] at e ⊢
    split at e
    · rename_i d ds e1 e2
      rw [toPz_more (n + 1) x d e1, toPzs_more (n + 1) xs ds e2]
      exact e
    · cases e
end
theorem toPz_le {h : AH} {n m : Nat} {d : D} {p : PyData} (e : toPz h n d = some p) (l : n ≤ m) : toPz h m d = some p := by
  induction l with
  | refl => exact e
  | step _ ih => exact toPz_more _ _ _ ih
mutual
def tinyZ : PyData → Bool
  | .none | .bool _ => true
  | .int i => decide (i.natAbs.log2 < 1920)
  | .str x => x.cps.toList.all fun c => decide (c < 1114112)
  | .list xs | .tuple xs => tinyZs xs
  | .dict [] => true
  | .dict (_ :: _) => false
def tinyZs : List PyData → Bool
  | [] => true
  | x :: xs => tinyZ x && tinyZs xs
end
mutual
theorem tinyZ_showable : ∀ d : PyData, tinyZ d = true → d.showable = true
  | .none, _ => rfl
  | .bool _, _ => rfl
  | .int i, h => by simpa [tinyZ, PyData.showable] using h
  | .str x, _ => rfl
  | .list xs, h => by simpa only [PyData.showable] using tinyZs_showable xs (by simpa only [tinyZ] using h)
  | .tuple xs, h => by simpa only [PyData.showable] using tinyZs_showable xs (by simpa only [tinyZ] using h)
  | .dict [], _ => by simp only [PyData.showable, PyData.showableKv]
  | .dict (_ :: _), h => by simp [tinyZ] at h
theorem tinyZs_showable : ∀ xs : List PyData, tinyZs xs = true → PyData.showableAll xs = true
  | [], _ => rfl
  | x :: xs, h => by
    simp only [tinyZs, Bool.and_eq_true] at h
    simp only [PyData.showableAll, Bool.and_eq_true]
    exact ⟨tinyZ_showable x h.1, tinyZs_showable xs h.2⟩
end
mutual
theorem tinyZ_short : ∀ d : PyData, tinyZ d = true → d.leavesShort 1922 = true
  | .none, _ => rfl
  | .bool _, _ => rfl
  | .int i, h => by
    simp only [tinyZ, decide_eq_true_eq] at h
    simp only [PyData.leavesShort, decide_eq_true_eq]
    have := int_text_length_le (k := 1920) (by decide) h
    show (Str.ofString (toString i)).length ≤ 1922
    rw [ofString_length]; omega
  | .str x, h => by
    simp only [tinyZ, List.all_eq_true, decide_eq_true_eq] at h
    simp only [PyData.leavesShort, List.all_eq_true, decide_eq_true_eq]
    exact fun c hc => Nat.lt_trans (h c hc) (by decide)
  | .list xs, h => by simpa only [PyData.leavesShort] using tinyZs_short xs (by simpa only [tinyZ] using h)
  | .tuple xs, h => by simpa only [PyData.leavesShort] using tinyZs_short xs (by simpa only [tinyZ] using h)
  | .dict [], _ => by simp only [PyData.leavesShort, PyData.leavesShortKv]
  | .dict (_ :: _), h => by simp [tinyZ] at h
theorem tinyZs_short : ∀ xs : List PyData, tinyZs xs = true → PyData.leavesShortAll 1922 xs = true
  | [], _ => rfl
  | x :: xs, h => by
    simp only [tinyZs, Bool.and_eq_true] at h
    simp only [PyData.leavesShortAll, Bool.and_eq_true]
    exact ⟨tinyZ_short x h.1, tinyZs_short xs h.2⟩
end
theorem bReprZ_ok {x : D} {h : AH} {d : PyData} (e : toPz h deep x = some d) (ht : tinyZ d = true) (hd : d.depth ≤ 60) (hw : d.weight ≤ 8000) : bReprZ [x] h = .ok (.str d.shown) h := by
  have hz : d.shown.length ≤ sizeLine := by
    have := PyData.shown_le 1922 (by decide) d (tinyZ_short d ht)
    rw [sizeLine_eq]
    omega
  simp only [bReprZ, e]
  exact if_pos ⟨tinyZ_showable d ht, hd, hz⟩
mutual
theorem toPz_depth {h : AH} : ∀ (n : Nat) (d : D) (p : PyData), toPz h n d = some p → p.depth ≤ n
  | 0, _, _, e => by simp [toPz] at e
  | n + 1, .non, _, e => by simp [toPz] at e; subst e; simp only [PyData.depth]; omega
  | n + 1, .bl b, _, e => by simp [toPz] at e; subst e; simp only [PyData.depth]; omega
  | n + 1, .int i, _, e => by simp [toPz] at e; subst e; simp only [PyData.depth]; omega
  | n + 1, .str x, _, e => by simp [toPz] at e; subst e; simp only [PyData.depth]; omega
  | n + 1, .tup xs, _, e => by
    simp only [toPz, Option.map_eq_some_iff] at e
    obtain ⟨ds, e, rfl⟩ := e
    have := toPzs_depth n xs ds e
    simp only [PyData.depth]; omega
  | n + 1, .exc _ _ _, _, e => by simp [toPz] at e
  | n + 1, .fz xs, _, e => by
    simp only [toPz, Option.map_eq_some_iff] at e
    obtain ⟨ds, e, rfl⟩ := e
    have := toPzs_depth n xs ds e
    simp only [PyData.depth]; omega
  | n + 1, .ref m, p, e => by
    simp only [toPz] at e
    split at e
    · simp only [Option.map_eq_some_iff] at e
      obtain ⟨ds, e, rfl⟩ := e
      have := toPzs_depth n _ ds e
      simp only [PyData.depth]; omega
    · cases e; simp only [PyData.depth, PyData.depthKv]; omega
    · cases e
theorem toPzs_depth {h : AH} : ∀ (n : Nat) (ds : List D) (ps : List PyData), toPzs h n ds = some ps → PyData.depthAll ps ≤ n
  | 0, _, _, e => by simp [toPzs] at e
  | n + 1, [], _, e => by simp [toPzs] at e; subst e; simp only [PyData.depthAll]; omega
  | n + 1, x :: xs, _, e => by
    simp only [toPzs] at e
    split at e
    · rename_i d ds e1 e2
      cases e
      have h1 := toPz_depth (n + 1) x d e1
      have h2 := toPzs_depth (n + 1) xs ds e2
      simp only [PyData.depthAll]; omega
    · cases e
end
structure Gd (h : AH) (m w : Nat) (d : D) : Prop where
  ex : ∃ p, toPz h m d = some p ∧ tinyZ p = true ∧ p.weight ≤ w
theorem Gd.mono {h : AH} {m n v w : Nat} {d : D} (g : Gd h m v d) (l : m ≤ n) (k : v ≤ w) : Gd h n w d := by
  obtain ⟨p, a, b, c⟩ := g.ex
  exact ⟨p, toPz_le a l, b, by omega⟩
theorem Gd.keep {h h' : AH} {m w : Nat} {d : D} (g : Gd h m w d) (k : Still h h') : Gd h' m w d := by
  obtain ⟨p, a, b, c⟩ := g.ex
  exact ⟨p, toPz_keep k _ _ _ a, b, c⟩
theorem Still.app {h g : AH} : Still h (h ++ g) := fun i o e _ => by rw [List.getElem?_append_left (List.getElem?_eq_some_iff.mp e).1]; exact e
theorem Gd.repr {h : AH} {m w : Nat} {d : D} (g : Gd h m w d) (hm : m ≤ 40) (hw : w ≤ 8000) : ∃ s, ∀ h', Still h h' → bReprZ [d] h' = .ok (.str s) h' := by
  obtain ⟨p, a, b, c⟩ := g.ex
  refine ⟨p.shown, fun h' k => bReprZ_ok (toPz_keep k _ _ _ (toPz_le a hm)) b (Nat.le_trans (toPz_depth _ _ _ a) (by omega)) (by omega)⟩
end EV
set_option Elab.async false
set_option linter.all false
set_option autoImplicit false
set_option maxRecDepth 100000
namespace EV
open PySem PySem.Spec L2
inductive T where
  | non | bl (b : Bool) | int (i : Int) | str (x : Str) | tup (xs : List T) | lst (xs : List T) | dct (kvs : List (T × T)) | dtt (kvs : List (List Key × T)) | pen | exc (n f : Str) (xs : List T)
  deriving Inhabited
def kT : Key → T
  | .inl i => .int i
  | .inr x => .str x
theorem kT_inj {a b : Key} (e : kT a = kT b) : a = b := by
  cases a <;> cases b <;> simp [kT] at e <;> subst e <;> rfl
mutual
inductive Rd (p : Nat) (B : Nat → Prop) (h : AH) : D → T → Prop
  | non : Rd p B h .non .non
  | bl (b : Bool) : Rd p B h (.bl b) (.bl b)
  | int (i : Int) : Rd p B h (.int i) (.int i)
  | str (x : Str) : Rd p B h (.str x) (.str x)
  | tup {xs : List D} {ts : List T} : Rds p B h xs ts → Rd p B h (.tup xs) (.tup ts)
  | lst {n : Nat} {xs : List D} {ts : List T} : h[n]? = some (.lst xs) → ¬ B n → Rds p B h xs ts → Rd p B h (.ref n) (.lst ts)
  | dct {n : Nat} {xs : List (Key × D)} {ts : List (T × T)} : h[n]? = some (.dct xs) → ¬ B n → Rdk p B h xs ts → Rd p B h (.ref n) (.dct ts)
  | dtt {n : Nat} {xs : List (List Key × D)} {ts : List (List Key × T)} : h[n]? = some (.dtt xs) → ¬ B n → Rdt p B h xs ts → Rd p B h (.ref n) (.dtt ts)
  | pen : p < h.length → Rd p B h (.ref p) .pen
  | exc {n f : Str} {xs : List D} {ts : List T} : Rds p B h xs ts → Rd p B h (.exc n f xs) (.exc n f ts)
inductive Rds (p : Nat) (B : Nat → Prop) (h : AH) : List D → List T → Prop
  | nil : Rds p B h [] []
  | cons {x : D} {t : T} {xs : List D} {ts : List T} : Rd p B h x t → Rds p B h xs ts → Rds p B h (x :: xs) (t :: ts)
inductive Rdk (p : Nat) (B : Nat → Prop) (h : AH) : List (Key × D) → List (T × T) → Prop
  | nil : Rdk p B h [] []
  | cons {k : Key} {x : D} {t : T} {xs : List (Key × D)} {ts : List (T × T)} : Rd p B h x t → Rdk p B h xs ts → Rdk p B h ((k, x) :: xs) ((kT k, t) :: ts)
inductive Rdt (p : Nat) (B : Nat → Prop) (h : AH) : List (List Key × D) → List (List Key × T) → Prop
  | nil : Rdt p B h [] []
  | cons {k : List Key} {x : D} {t : T} {xs : List (List Key × D)} {ts : List (List Key × T)} : Rd p B h x t → Rdt p B h xs ts → Rdt p B h ((k, x) :: xs) ((k, t) :: ts)
end
section
variable {p : Nat} {B B' : Nat → Prop} {h h' : AH}
mutual
/-- what isn't blocked stays -/
theorem Rd.up (k : ∀ n, n < h.length → ¬ B n → h'[n]? = h[n]?) (hl : h.length ≤ h'.length) : ∀ {d : D} {t : T}, Rd p B h d t → Rd p B h' d t
  | _, _, .non => .non
  | _, _, .bl b => .bl b
  | _, _, .int i => .int i
  | _, _, .str x => .str x
  | _, _, .tup r => .tup (Rds.up k hl r)
  | _, _, .exc r => .exc (Rds.up k hl r)
  | _, _, .lst e b r => .lst (by rw [k _ (List.getElem?_eq_some_iff.mp e).1 b]; exact e) b (Rds.up k hl r)
  | _, _, .dct e b r => .dct (by rw [k _ (List.getElem?_eq_some_iff.mp e).1 b]; exact e) b (Rdk.up k hl r)
  | _, _, .dtt e b r => .dtt (by rw [k _ (List.getElem?_eq_some_iff.mp e).1 b]; exact e) b (Rdt.up k hl r)
  | _, _, .pen e => .pen (by omega)
theorem Rds.up (k : ∀ n, n < h.length → ¬ B n → h'[n]? = h[n]?) (hl : h.length ≤ h'.length) : ∀ {d : List D} {t : List T}, Rds p B h d t → Rds p B h' d t
  | _, _, .nil => .nil
  | _, _, .cons a b => .cons (Rd.up k hl a) (Rds.up k hl b)
theorem Rdk.up (k : ∀ n, n < h.length → ¬ B n → h'[n]? = h[n]?) (hl : h.length ≤ h'.length) : ∀ {d : List (Key × D)} {t : List (T × T)}, Rdk p B h d t → Rdk p B h' d t
  | _, _, .nil => .nil
  | _, _, .cons a b => .cons (Rd.up k hl a) (Rdk.up k hl b)
theorem Rdt.up (k : ∀ n, n < h.length → ¬ B n → h'[n]? = h[n]?) (hl : h.length ≤ h'.length) : ∀ {d : List (List Key × D)} {t : List (List Key × T)}, Rdt p B h d t → Rdt p B h' d t
  | _, _, .nil => .nil
  | _, _, .cons a b => .cons (Rd.up k hl a) (Rdt.up k hl b)
end
mutual
/-- other things blocked, but none that stood unblocked -/
theorem Rd.blk (k : ∀ n, B' n → B n ∨ h.length ≤ n) : ∀ {d : D} {t : T}, Rd p B h d t → Rd p B' h d t
  | _, _, .non => .non
  | _, _, .bl b => .bl b
  | _, _, .int i => .int i
  | _, _, .str x => .str x
  | _, _, .tup r => .tup (Rds.blk k r)
  | _, _, .exc r => .exc (Rds.blk k r)
  | _, _, .lst e b r => .lst e (fun z => by
      rcases k _ z with q | q
      · exact b q
      · have := (List.getElem?_eq_some_iff.mp e).1; omega) (Rds.blk k r)
  | _, _, .dct e b r => .dct e (fun z => by
      rcases k _ z with q | q
      · exact b q
      · have := (List.getElem?_eq_some_iff.mp e).1; omega) (Rdk.blk k r)
  | _, _, .dtt e b r => .dtt e (fun z => by
      rcases k _ z with q | q
      · exact b q
      · have := (List.getElem?_eq_some_iff.mp e).1; omega) (Rdt.blk k r)
  | _, _, .pen e => .pen e
theorem Rds.blk (k : ∀ n, B' n → B n ∨ h.length ≤ n) : ∀ {d : List D} {t : List T}, Rds p B h d t → Rds p B' h d t
  | _, _, .nil => .nil
  | _, _, .cons a b => .cons (Rd.blk k a) (Rds.blk k b)
theorem Rdk.blk (k : ∀ n, B' n → B n ∨ h.length ≤ n) : ∀ {d : List (Key × D)} {t : List (T × T)}, Rdk p B h d t → Rdk p B' h d t
  | _, _, .nil => .nil
  | _, _, .cons a b => .cons (Rd.blk k a) (Rdk.blk k b)
theorem Rdt.blk (k : ∀ n, B' n → B n ∨ h.length ≤ n) : ∀ {d : List (List Key × D)} {t : List (List Key × T)}, Rdt p B h d t → Rdt p B' h d t
  | _, _, .nil => .nil
  | _, _, .cons a b => .cons (Rd.blk k a) (Rdt.blk k b)
end
mutual
theorem Rd.isBelow : ∀ {d : D} {t : T}, Rd p B h d t → EV.below h.length d = true
  | _, _, .non => rfl
  | _, _, .bl _ => rfl
  | _, _, .int _ => rfl
  | _, _, .str _ => rfl
  | _, _, .tup r => by simpa [EV.below] using Rds.isBelow r
  | _, _, .exc r => by simpa [EV.below] using Rds.isBelow r
  | _, _, .lst e _ _ => by simpa [EV.below] using (List.getElem?_eq_some_iff.mp e).1
  | _, _, .dct e _ _ => by simpa [EV.below] using (List.getElem?_eq_some_iff.mp e).1
  | _, _, .dtt e _ _ => by simpa [EV.below] using (List.getElem?_eq_some_iff.mp e).1
  | _, _, .pen e => by simpa [EV.below] using e
theorem Rds.isBelow : ∀ {d : List D} {t : List T}, Rds p B h d t → EV.belows h.length d = true
  | _, _, .nil => rfl
  | _, _, .cons a b => by simp [EV.belows, Rd.isBelow a, Rds.isBelow b]
end
theorem Rdk.isBelow : ∀ {d : List (Key × D)} {t : List (T × T)}, Rdk p B h d t → EV.belows h.length (d.map (·.2)) = true
  | _, _, .nil => rfl
  | _, _, .cons a b => by simp [EV.belows, Rd.isBelow a, Rdk.isBelow b]
theorem Rdt.isBelow : ∀ {d : List (List Key × D)} {t : List (List Key × T)}, Rdt p B h d t → EV.belows h.length (d.map (·.2)) = true
  | _, _, .nil => rfl
  | _, _, .cons a b => by simp [EV.belows, Rd.isBelow a, Rdt.isBelow b]
mutual
theorem below_mono {n m : Nat} (l : n ≤ m) : ∀ d : D, EV.below n d = true → EV.below m d = true
  | .non, _ => rfl
  | .bl _, _ => rfl
  | .int _, _ => rfl
  | .str _, _ => rfl
  | .tup xs, e => by simp only [EV.below] at e ⊢; exact belows_mono l xs e
  | .fz xs, e => by simp only [EV.below] at e ⊢; exact belows_mono l xs e
  | .exc _ _ xs, e => by simp only [EV.below] at e ⊢; exact belows_mono l xs e
  | .ref k, e => by simp only [EV.below, decide_eq_true_eq] at e ⊢; omega
theorem belows_mono {n m : Nat} (l : n ≤ m) : ∀ d : List D, EV.belows n d = true → EV.belows m d = true
  | [], _ => rfl
  | x :: xs, e => by
    simp only [EV.belows, Bool.and_eq_true] at e ⊢
    exact ⟨below_mono l x e.1, belows_mono l xs e.2⟩
end
theorem belowO_mono {n m : Nat} (l : n ≤ m) {o : AO} (e : belowO n o = true) : belowO m o = true := by
  cases o with
  | lst xs => exact belows_mono l _ e
  | dct xs => exact belows_mono l _ e
  | dtt xs => exact belows_mono l _ e
def Closed (h : AH) : Prop := ∀ (n : Nat) (o : AO), h[n]? = some o → belowO h.length o = true
theorem Closed.app (c : Closed h) {o : AO} (e : belowO h.length o = true) : Closed (h ++ [o]) := by
  intro n q hq
  by_cases hn : n < h.length
  · rw [List.getElem?_append_left hn] at hq
    exact belowO_mono (by simp) (c n q hq)
  · rw [List.getElem?_append_right (by omega)] at hq
    have : n - h.length = 0 := by
      have := (List.getElem?_eq_some_iff.mp hq).1
      simp at this; omega
    rw [this] at hq
    simp at hq
    subst hq
    exact belowO_mono (by simp) e
theorem Closed.set (c : Closed h) {n : Nat} {o : AO} (e : belowO h.length o = true) : Closed (h.set n o) := by
  intro m q hq
  rw [List.length_set]
  by_cases hn : n = m
  · subst hn
    have := (List.getElem?_eq_some_iff.mp hq).1
    rw [List.length_set] at this
    rw [List.getElem?_set_self this] at hq
    cases hq; exact e
  · rw [List.getElem?_set_ne hn] at hq
    exact c m q hq
mutual
/-- behind a call: what was made within is cut off -/
theorem Rd.cut (c : Closed h) (k : ∀ n, n < h.length → ¬ B n → h'[n]? = h[n]?) (hl : h.length ≤ h'.length) : ∀ {d : D} {t : T}, Rd p B h' d t → EV.below h.length d = true → Rd p B (h'.take h.length) d t
  | _, _, .non, _ => .non
  | _, _, .bl b, _ => .bl b
  | _, _, .int i, _ => .int i
  | _, _, .str x, _ => .str x
  | _, _, .tup r, e => .tup (Rds.cut c k hl r (by simpa [EV.below] using e))
  | _, _, .exc r, e => .exc (Rds.cut c k hl r (by simpa [EV.below] using e))
  | _, _, .lst (n := n) e b r, l => by
    have hn : n < h.length := by simpa [EV.below] using l
    have e' := e
    rw [k n hn b] at e'
    exact .lst (by rw [List.getElem?_take_of_lt hn]; exact e) b (Rds.cut c k hl r (c n _ e'))
  | _, _, .dct (n := n) e b r, l => by
    have hn : n < h.length := by simpa [EV.below] using l
    have e' := e
    rw [k n hn b] at e'
    exact .dct (by rw [List.getElem?_take_of_lt hn]; exact e) b (Rdk.cut c k hl r (c n _ e'))
  | _, _, .dtt (n := n) e b r, l => by
    have hn : n < h.length := by simpa [EV.below] using l
    have e' := e
    rw [k n hn b] at e'
    exact .dtt (by rw [List.getElem?_take_of_lt hn]; exact e) b (Rdt.cut c k hl r (c n _ e'))
  | _, _, .pen e, l => by
    have hn : p < h.length := by simpa [EV.below] using l
    exact .pen (by rw [List.length_take]; omega)
theorem Rds.cut (c : Closed h) (k : ∀ n, n < h.length → ¬ B n → h'[n]? = h[n]?) (hl : h.length ≤ h'.length) : ∀ {d : List D} {t : List T}, Rds p B h' d t → EV.belows h.length d = true → Rds p B (h'.take h.length) d t
  | _, _, .nil, _ => .nil
  | _, _, .cons a b, e => by
    simp only [EV.belows, Bool.and_eq_true] at e
    exact .cons (Rd.cut c k hl a e.1) (Rds.cut c k hl b e.2)
theorem Rdk.cut (c : Closed h) (k : ∀ n, n < h.length → ¬ B n → h'[n]? = h[n]?) (hl : h.length ≤ h'.length) : ∀ {d : List (Key × D)} {t : List (T × T)}, Rdk p B h' d t → EV.belows h.length (d.map (·.2)) = true → Rdk p B (h'.take h.length) d t
  | _, _, .nil, _ => .nil
  | _, _, .cons a b, e => by
    simp only [List.map_cons, EV.belows, Bool.and_eq_true] at e
    exact .cons (Rd.cut c k hl a e.1) (Rdk.cut c k hl b e.2)
theorem Rdt.cut (c : Closed h) (k : ∀ n, n < h.length → ¬ B n → h'[n]? = h[n]?) (hl : h.length ≤ h'.length) : ∀ {d : List (List Key × D)} {t : List (List Key × T)}, Rdt p B h' d t → EV.belows h.length (d.map (·.2)) = true → Rdt p B (h'.take h.length) d t
  | _, _, .nil, _ => .nil
  | _, _, .cons a b, e => by
    simp only [List.map_cons, EV.belows, Bool.and_eq_true] at e
    exact .cons (Rd.cut c k hl a e.1) (Rdt.cut c k hl b e.2)
end
theorem Rds.length : ∀ {xs : List D} {ts : List T}, Rds p B h xs ts → xs.length = ts.length
  | _, _, .nil => rfl
  | _, _, .cons _ b => by simp [Rds.length b]
theorem Rds.get : ∀ {xs : List D} {ts : List T} {i : Nat} {t : T}, Rds p B h xs ts → ts[i]? = some t → ∃ d, xs[i]? = some d ∧ Rd p B h d t
  | _, _, _, _, .nil, e => by simp at e
  | _, _, 0, _, .cons a _, e => by simp at e; subst e; exact ⟨_, rfl, a⟩
  | _, _, i + 1, t, .cons _ b, e => by
    obtain ⟨y, h1, h2⟩ := Rds.get (i := i) (t := t) b (by simpa using e)
    exact ⟨y, by simpa using h1, h2⟩
theorem Rds.app : ∀ {xs xs' : List D} {ts ts' : List T}, Rds p B h xs ts → Rds p B h xs' ts' → Rds p B h (xs ++ xs') (ts ++ ts')
  | _, _, _, _, .nil, s => s
  | _, _, _, _, .cons a b, s => .cons a (Rds.app b s)
theorem Rds.set {x : D} {t : T} (r : Rd p B h x t) : ∀ {xs : List D} {ts : List T} (i : Nat), Rds p B h xs ts → Rds p B h (xs.set i x) (ts.set i t)
  | _, _, _, .nil => .nil
  | _, _, 0, .cons _ b => .cons r b
  | _, _, i + 1, .cons a b => .cons a (Rds.set r i b)
theorem Rds.drop : ∀ {xs : List D} {ts : List T} (n : Nat), Rds p B h xs ts → Rds p B h (xs.drop n) (ts.drop n)
  | _, _, 0, h => h
  | _, _, _ + 1, .nil => .nil
  | _, _, n + 1, .cons _ b => Rds.drop n b
theorem Rds.take : ∀ {xs : List D} {ts : List T} (n : Nat), Rds p B h xs ts → Rds p B h (xs.take n) (ts.take n)
  | _, _, 0, _ => .nil
  | _, _, _ + 1, .nil => .nil
  | _, _, n + 1, .cons a b => .cons a (Rds.take n b)
theorem Rds.rep {xs : List D} {ts : List T} (r : Rds p B h xs ts) : ∀ n : Nat, Rds p B h (List.replicate n xs).flatten (List.replicate n ts).flatten
  | 0 => .nil
  | n + 1 => by
    rw [List.replicate_succ, List.replicate_succ, List.flatten_cons, List.flatten_cons]
    exact r.app (Rds.rep r n)
theorem Rds.ints : ∀ ns : List Int, Rds p B h (ns.map D.int) (ns.map T.int)
  | [] => .nil
  | n :: ns => .cons (.int n) (Rds.ints ns)
theorem atI_rd {xs : List D} {ts : List T} {i : Int} {t : T} (r : Rds p B h xs ts) (e : atI ts i = some t) : ∃ d, atI xs i = some d ∧ Rd p B h d t := by
  unfold atI at e ⊢
  rw [r.length]
  cases q : ixN ts.length i with
  | none => rw [q] at e; cases e
  | some k =>
    rw [q] at e
    exact r.get e
end
end EV
set_option Elab.async false
set_option linter.all false
set_option autoImplicit false
set_option maxRecDepth 100000
namespace EV
open PySem PySem.Spec L2
structure PenSys where
  Pn : Nat → Nat → AH → Nat → Prop
  loc : ∀ {p q : Nat} {h : AH} {c : Nat}, Pn p q h c → p < h.length ∧ q < h.length ∧ p ≠ q
  keep : ∀ {p q : Nat} {h h' : AH} {c : Nat}, Pn p q h c → h'[p]? = h[p]? → h'[q]? = h[q]? → Pn p q h' c
abbrev TFr := List (Option T)
abbrev QT := T → Nat → Prop
abbrev WE := TFr → Nat → QT → Prop
abbrev WT := TFr → Nat → (Bool → Nat → Prop) → Prop
abbrev WA := TFr → Nat → (List T → Nat → Prop) → Prop
abbrev WO := TFr → Nat → (Option Int → Nat → Prop) → Prop
abbrev WF := List T → Nat → QT → Prop
structure Good (S : PenSys) (p q : Nat) (B : Nat → Prop) (h : AH) (c : Nat) : Prop where
  pn : S.Pn p q h c
  bp : B p
  bq : B q
  al : ∀ n, B n → n < h.length
  cl : Closed h
structure Ge (p : Nat) (h h' : AH) : Prop where
  len : h.length ≤ h'.length
  at_ : ∀ n, n < h.length → n ≠ p → h'[n]? = h[n]?
theorem Ge.refl {p : Nat} {h : AH} : Ge p h h := ⟨Nat.le_refl _, fun _ _ _ => rfl⟩
theorem Ge.trans {p : Nat} {h h1 h2 : AH} (a : Ge p h h1) (b : Ge p h1 h2) : Ge p h h2 :=
  ⟨Nat.le_trans a.len b.len, fun n l ne => by rw [b.at_ n (Nat.lt_of_lt_of_le l a.len) ne, a.at_ n l ne]⟩
theorem Ge.app {p : Nat} {h g : AH} : Ge p h (h ++ g) := ⟨by simp, fun n l _ => List.getElem?_append_left l⟩
section
variable {S : PenSys} {p q L : Nat} {B : Nat → Prop} {h h' : AH} {c c' : Nat}
theorem Ge.k (g : Ge p h h') (bp : B p) : ∀ n, n < h.length → ¬ B n → h'[n]? = h[n]? := fun n l b => g.at_ n l fun e => b (e ▸ bp)
theorem Rd.ge {d : D} {t : T} (r : Rd p B h d t) (g : Ge p h h') (bp : B p) : Rd p B h' d t := r.up (g.k bp) g.len
theorem Rds.ge {d : List D} {t : List T} (r : Rds p B h d t) (g : Ge p h h') (bp : B p) : Rds p B h' d t := r.up (g.k bp) g.len
theorem Rdk.ge {d : List (Key × D)} {t : List (T × T)} (r : Rdk p B h d t) (g : Ge p h h') (bp : B p) : Rdk p B h' d t := r.up (g.k bp) g.len
theorem Rdt.ge {d : List (List Key × D)} {t : List (List Key × T)} (r : Rdt p B h d t) (g : Ge p h h') (bp : B p) : Rdt p B h' d t := r.up (g.k bp) g.len
theorem Good.app (G : Good S p q B h c) {o : AO} (e : belowO h.length o = true) : Good S p q B (h ++ [o]) c := by
  obtain ⟨l1, l2, _⟩ := S.loc G.pn
  exact ⟨S.keep G.pn (List.getElem?_append_left l1) (List.getElem?_append_left l2), G.bp, G.bq, fun n b => by have := G.al n b; simp; omega, G.cl.app e⟩
inductive Own (p : Nat) (B : Nat → Prop) (h : AH) (n : Nat) : T → Prop
  | lst {xs : List D} {ts : List T} : h[n]? = some (.lst xs) → Rds p B h xs ts → Own p B h n (.lst ts)
  | dct {xs : List (Key × D)} {ts : List (T × T)} : h[n]? = some (.dct xs) → Rdk p B h xs ts → Own p B h n (.dct ts)
  | dtt {xs : List (List Key × D)} {ts : List (List Key × T)} : h[n]? = some (.dtt xs) → Rdt p B h xs ts → Own p B h n (.dtt ts)
theorem Own.lt {n : Nat} {t : T} (o : Own p B h n t) : n < h.length := by
  cases o with
  | lst e _ => exact (List.getElem?_eq_some_iff.mp e).1
  | dct e _ => exact (List.getElem?_eq_some_iff.mp e).1
  | dtt e _ => exact (List.getElem?_eq_some_iff.mp e).1
theorem Own.ge {n : Nat} {t : T} (o : Own p B h n t) (g : Ge p h h') (bp : B p) (ne : n ≠ p) : Own p B h' n t := by
  cases o with
  | lst e r => exact .lst (by rw [g.at_ n (List.getElem?_eq_some_iff.mp e).1 ne]; exact e) (r.ge g bp)
  | dct e r => exact .dct (by rw [g.at_ n (List.getElem?_eq_some_iff.mp e).1 ne]; exact e) (r.ge g bp)
  | dtt e r => exact .dtt (by rw [g.at_ n (List.getElem?_eq_some_iff.mp e).1 ne]; exact e) (r.ge g bp)
def RdX (p : Nat) (B : Nat → Prop) (h : AH) (d : D) (t : T) : Prop := Rd p B h d t ∨ ∃ n, d = .ref n ∧ n ≠ p ∧ Own p B h n t
theorem RdX.ge {d : D} {t : T} (r : RdX p B h d t) (g : Ge p h h') (bp : B p) : RdX p B h' d t := by
  rcases r with r | ⟨n, e, ne, o⟩
  · exact .inl (r.ge g bp)
  · exact .inr ⟨n, e, ne, o.ge g bp ne⟩
structure RF (p : Nat) (B : Nat → Prop) (L : Nat) (O : List Nat) (h : AH) (σ : Fr) (τ : TFr) : Prop where
  len : σ.length = τ.length
  va : ∀ (i : Nat) (t : T), i ∉ O → τ[i]? = some (some t) → ∃ d, σ[i]? = some (some d) ∧ Rd p B h d t
  ow : ∀ (i : Nat) (t : T), i ∈ O → τ[i]? = some (some t) → ∃ n, σ[i]? = some (some (.ref n)) ∧ B n ∧ L ≤ n ∧ Own p B h n t
  nd : ∀ (i j n : Nat) (t u : T), i ∈ O → j ∈ O → i ≠ j → τ[i]? = some (some t) → τ[j]? = some (some u) → σ[i]? = some (some (.ref n)) → σ[j]? = some (some (.ref n)) → False
theorem RF.ge {O : List Nat} {σ : Fr} {τ : TFr} (r : RF p B L O h σ τ) (g : Ge p h h') (bp : B p) (pl : p < L) : RF p B L O h' σ τ := by
  refine ⟨r.len, fun i t ho e => ?_, fun i t ho e => ?_, r.nd⟩
  · obtain ⟨d, h1, h2⟩ := r.va i t ho e
    exact ⟨d, h1, h2.ge g bp⟩
  · obtain ⟨n, h1, h2, h3, h4⟩ := r.ow i t ho e
    exact ⟨n, h1, h2, h3, h4.ge g bp (by omega)⟩
end
variable (S : PenSys)
def JE (O : List Nat) (f : EF) (φ : WE) : Prop := ∀ (p q L : Nat) (B : Nat → Prop) (h : AH) (c : Nat) (σ : Fr) (τ : TFr) (Q : QT), Good S p q B h c → p < L → RF p B L O h σ τ → φ τ c Q →
  ∃ v h' t c', f σ h = .ok v h' ∧ Ge p h h' ∧ Good S p q B h' c' ∧ Rd p B h' v t ∧ Q t c'
def JX (O : List Nat) (f : EF) (φ : WE) : Prop := ∀ (p q L : Nat) (B : Nat → Prop) (h : AH) (c : Nat) (σ : Fr) (τ : TFr) (Q : QT), Good S p q B h c → p < L → RF p B L O h σ τ → φ τ c Q →
  ∃ v h' t c', f σ h = .ok v h' ∧ Ge p h h' ∧ Good S p q B h' c' ∧ RdX p B h' v t ∧ Q t c'
def JN (O : List Nat) (f : EF) (φ : WE) : Prop := ∀ (p q L : Nat) (B : Nat → Prop) (h : AH) (c : Nat) (σ : Fr) (τ : TFr) (Q : QT), Good S p q B h c → p < L → RF p B L O h σ τ → φ τ c Q →
  ∃ n h' t c', f σ h = .ok (.ref n) h' ∧ h.length ≤ n ∧ Ge p h h' ∧ Good S p q B h' c' ∧ Own p (fun m => B m ∨ m = n) h' n t ∧ Q t c'
def JT (O : List Nat) (f : TF) (φ : WT) : Prop := ∀ (p q L : Nat) (B : Nat → Prop) (h : AH) (c : Nat) (σ : Fr) (τ : TFr) (Q : Bool → Nat → Prop), Good S p q B h c → p < L → RF p B L O h σ τ → φ τ c Q →
  ∃ v h' c', f σ h = .ok v h' ∧ Ge p h h' ∧ Good S p q B h' c' ∧ Q v c'
def JA (O : List Nat) (f : AF) (φ : WA) : Prop := ∀ (p q L : Nat) (B : Nat → Prop) (h : AH) (c : Nat) (σ : Fr) (τ : TFr) (Q : List T → Nat → Prop), Good S p q B h c → p < L → RF p B L O h σ τ → φ τ c Q →
  ∃ v h' t c', f σ h = .ok v h' ∧ Ge p h h' ∧ Good S p q B h' c' ∧ Rds p B h' v t ∧ Q t c'
def JF (F : BF) (Φ : WF) : Prop := ∀ (p q : Nat) (B : Nat → Prop) (h : AH) (c : Nat) (ds : List D) (ts : List T) (Q : QT), Good S p q B h c → Rds p B h ds ts → Φ ts c Q →
  ∃ v h' t c', F ds h = .ok v h' ∧ Ge p h h' ∧ Good S p q B h' c' ∧ Rd p B h' v t ∧ Q t c'
def JFN (F : BF) (Φ : WF) : Prop := ∀ (p q : Nat) (B : Nat → Prop) (h : AH) (c : Nat) (ds : List D) (ts : List T) (Q : QT), Good S p q B h c → Rds p B h ds ts → Φ ts c Q →
  ∃ n h' t c', F ds h = .ok (.ref n) h' ∧ h.length ≤ n ∧ Ge p h h' ∧ Good S p q B h' c' ∧ Own p (fun m => B m ∨ m = n) h' n t ∧ Q t c'
section
variable {S : PenSys} {O : List Nat}
theorem Own.rd {p q : Nat} {B : Nat → Prop} {h : AH} {n : Nat} {t : T} (o : Own p (fun m => B m ∨ m = n) h n t) (nb : ¬ B n) : Rd p B h (.ref n) t := by
  cases o with
  | lst e r => exact .lst e nb (r.blk fun m b => .inl (.inl b))
  | dct e r => exact .dct e nb (r.blk fun m b => .inl (.inl b))
  | dtt e r => exact .dtt e nb (r.blk fun m b => .inl (.inl b))
theorem JN.e {f : EF} {φ : WE} (j : JN S O f φ) : JE S O f φ := fun p q L B h c σ τ Q G pl r w => by
  obtain ⟨n, h', t, c', e, ln, g, G', o, k⟩ := j p q L B h c σ τ Q G pl r w
  exact ⟨_, h', t, c', e, g, G', o.rd (q := q) fun b => by have := G.al n b; omega, k⟩
theorem JE.x {f : EF} {φ : WE} (j : JE S O f φ) : JX S O f φ := fun p q L B h c σ τ Q G pl r w => by
  obtain ⟨v, h', t, c', e, g, G', o, k⟩ := j p q L B h c σ τ Q G pl r w
  exact ⟨_, h', t, c', e, g, G', .inl o, k⟩
theorem JFN.e {F : BF} {Φ : WF} (j : JFN S F Φ) : JF S F Φ := fun p q B h c ds ts Q G r w => by
  obtain ⟨n, h', t, c', e, ln, g, G', o, k⟩ := j p q B h c ds ts Q G r w
  exact ⟨_, h', t, c', e, g, G', o.rd (q := q) fun b => by have := G.al n b; omega, k⟩
def wVar (i : Nat) : WE := fun τ c Q => match τ[i]? with | some (some t) => Q t c | _ => False
def wK (t : T) : WE := fun _ c Q => Q t c
theorem j_var (i : Nat) (hi : i ∉ O := by decide) : JE S O (eVar i) (wVar i) := fun p q L B h c σ τ Q G pl r w => by
  unfold wVar at w
  split at w
  · rename_i t e
    obtain ⟨d, h1, h2⟩ := r.va i t hi e
    exact ⟨d, h, t, c, eVar_k h1, Ge.refl, G, h2, w⟩
  · exact w.elim
inductive KD : D → T → Prop
  | non : KD .non .non
  | bl (b : Bool) : KD (.bl b) (.bl b)
  | int (i : Int) : KD (.int i) (.int i)
  | str (x : Str) : KD (.str x) (.str x)
theorem j_k {d : D} {t : T} (k : ∀ p B h, Rd p B h d t) : JE S O (eK d) (wK t) := fun p q L B h c σ τ Q G pl r w => ⟨d, h, t, c, rfl, Ge.refl, G, k p B h, w⟩
def wNil : WA := fun _ c Q => Q [] c
def wCons (f : WE) (g : WA) : WA := fun τ c Q => f τ c fun x c1 => g τ c1 fun xs c2 => Q (x :: xs) c2
theorem ja_nil : JA S O aNil wNil := fun p q L B h c σ τ Q G pl r w => ⟨[], h, [], c, rfl, Ge.refl, G, .nil, w⟩
theorem ja_cons {f : EF} {φ : WE} {g : AF} {ψ : WA} (a : JE S O f φ) (b : JA S O g ψ) : JA S O (aCons f g) (wCons φ ψ) := fun p q L B h c σ τ Q G pl r w => by
  obtain ⟨v, h1, t, c1, e1, g1, G1, r1, k1⟩ := a p q L B h c σ τ _ G pl r w
  obtain ⟨vs, h2, ts, c2, e2, g2, G2, r2, k2⟩ := b p q L B h1 c1 σ τ _ G1 pl (r.ge g1 G.bp pl) k1
  exact ⟨v :: vs, h2, t :: ts, c2, by rw [aCons_d, e1, bind_ok, e2, bind_ok], g1.trans g2, G2, .cons (r1.ge g2 G.bp) r2, k2⟩
abbrev V2 := T → T → (T → Prop) → Prop
def O2 (S : PenSys) (o : Op2) (v : V2) : Prop := ∀ (p q : Nat) (B : Nat → Prop) (h : AH) (c : Nat) (x y : D) (a b : T) (Q : T → Prop), Good S p q B h c → RdX p B h x a → RdX p B h y b → v a b Q →
  ∃ z h' t, o x y h = .ok z h' ∧ Ge p h h' ∧ Good S p q B h' c ∧ Rd p B h' z t ∧ Q t
def wBin (v : V2) (f g : WE) : WE := fun τ c Q => f τ c fun x c1 => g τ c1 fun y c2 => v x y fun z => Q z c2
theorem j_bin {o : Op2} {v : V2} {f g : EF} {φ ψ : WE} (s : O2 S o v) (a : JX S O f φ) (b : JX S O g ψ) : JE S O (eBin o f g) (wBin v φ ψ) := fun p q L B h c σ τ Q G pl r w => by
  obtain ⟨x, h1, tx, c1, e1, g1, G1, r1, k1⟩ := a p q L B h c σ τ _ G pl r w
  obtain ⟨y, h2, ty, c2, e2, g2, G2, r2, k2⟩ := b p q L B h1 c1 σ τ _ G1 pl (r.ge g1 G.bp pl) k1
  obtain ⟨z, h3, t, e3, g3, G3, r3, k3⟩ := s p q B h2 c2 x y tx ty _ G2 (r1.ge g2 G.bp) r2 k2
  exact ⟨z, h3, t, c2, by rw [eBin_d, e1, bind_ok, e2, bind_ok, e3], g1.trans (g2.trans g3), G3, r3, k3⟩
def vI (C : Int → Int → Prop) (g : Int → Int → T) : V2 := fun x y Q => match x, y with | .int i, .int j => C i j ∧ Q (g i j) | _, _ => False
theorem RdX.int {p : Nat} {B : Nat → Prop} {h : AH} {d : D} {i : Int} (r : RdX p B h d (.int i)) : d = .int i := by
  rcases r with r | ⟨n, e, ne, o⟩
  · cases r; rfl
  · cases o
theorem RdX.bl {p : Nat} {B : Nat → Prop} {h : AH} {d : D} {i : Bool} (r : RdX p B h d (.bl i)) : d = .bl i := by
  rcases r with r | ⟨n, e, ne, o⟩
  · cases r; rfl
  · cases o
theorem RdX.str {p : Nat} {B : Nat → Prop} {h : AH} {d : D} {i : Str} (r : RdX p B h d (.str i)) : d = .str i := by
  rcases r with r | ⟨n, e, ne, o⟩
  · cases r; rfl
  · cases o
theorem RdX.non {p : Nat} {B : Nat → Prop} {h : AH} {d : D} (r : RdX p B h d .non) : d = .non := by
  rcases r with r | ⟨n, e, ne, o⟩
  · cases r; rfl
  · cases o
theorem RdX.tup {p : Nat} {B : Nat → Prop} {h : AH} {d : D} {ts : List T} (r : RdX p B h d (.tup ts)) : ∃ xs, d = .tup xs ∧ Rds p B h xs ts := by
  rcases r with r | ⟨n, e, ne, o⟩
  · cases r with | tup r => exact ⟨_, rfl, r⟩
  · cases o
theorem RdX.lst {p : Nat} {B : Nat → Prop} {h : AH} {d : D} {ts : List T} (r : RdX p B h d (.lst ts)) : ∃ n xs, Rds p B h xs ts ∧ d = .ref n ∧ h[n]? = some (.lst xs) := by
  rcases r with r | ⟨n, e, ne, o⟩
  · cases r with
    | lst e b r => exact ⟨_, _, r, rfl, e⟩
  · cases o with | lst e' r => exact ⟨n, _, r, e, e'⟩
theorem RdX.dct {p : Nat} {B : Nat → Prop} {h : AH} {d : D} {ts : List (T × T)} (r : RdX p B h d (.dct ts)) : ∃ n xs, Rdk p B h xs ts ∧ d = .ref n ∧ h[n]? = some (.dct xs) := by
  rcases r with r | ⟨n, e, ne, o⟩
  · cases r with
    | dct e b r => exact ⟨_, _, r, rfl, e⟩
  · cases o with | dct e' r => exact ⟨n, _, r, e, e'⟩
theorem RdX.dtt {p : Nat} {B : Nat → Prop} {h : AH} {d : D} {ts : List (List Key × T)} (r : RdX p B h d (.dtt ts)) : ∃ n xs, Rdt p B h xs ts ∧ d = .ref n ∧ h[n]? = some (.dtt xs) := by
  rcases r with r | ⟨n, e, ne, o⟩
  · cases r with
    | dtt e b r => exact ⟨_, _, r, rfl, e⟩
  · cases o with | dtt e' r => exact ⟨n, _, r, e, e'⟩
theorem RdX.seq {p : Nat} {B : Nat → Prop} {h : AH} {d : D} {ts : List T} (r : RdX p B h d (.lst ts) ∨ RdX p B h d (.tup ts)) : ∃ xs, Rds p B h xs ts ∧ seqOf d h = some xs := by
  rcases r with r | r
  · obtain ⟨n, xs, r, e, e'⟩ := r.lst
    exact ⟨xs, r, by subst e; simp only [seqOf, e']⟩
  · obtain ⟨xs, e, r⟩ := r.tup
    exact ⟨xs, r, by subst e; rfl⟩
theorem o2_I {o : Op2} {C : Int → Int → Prop} {g : Int → Int → T} {g' : Int → Int → D} (ho : ∀ i j h, C i j → o (.int i) (.int j) h = .ok (g' i j) h) (hg : ∀ p B h i j, Rd p B h (g' i j) (g i j)) : O2 S o (vI C g) := fun p q B h c x y a b Q G rx ry w => by
  unfold vI at w
  split at w
  · rename_i i j
    have := rx.int; subst this
    have := ry.int; subst this
    exact ⟨_, h, _, ho i j h w.1, Ge.refl, G, hg p B h i j, w.2⟩
  · exact w.elim
def vSub : V2 := vI (fun _ _ => True) fun i j => .int (i - j)
theorem o2_sub : O2 S oSub vSub := o2_I (fun i j h _ => rfl) fun _ _ _ _ _ => .int _
theorem oMul_c {i j : Int} {h : AH} (c : CMulF i j) : oMul (.int i) (.int j) h = .ok (.int (i * j)) h := if_pos c
def vFdiv : V2 := vI CDivF fun i j => .int (i.fdiv j)
theorem o2_fdiv : O2 S oFdiv vFdiv := o2_I (fun i j h c => if_pos c) fun _ _ _ _ _ => .int _
def vMod : V2 := vI (fun _ j => j ≠ 0) fun i j => .int (i.fmod j)
theorem o2_mod : O2 S oMod vMod := o2_I (fun i j h c => if_pos c) fun _ _ _ _ _ => .int _
def vPow : V2 := vI CPow fun i j => .int (i ^ j.toNat)
theorem o2_pow : O2 S oPow vPow := o2_I (fun i j h c => if_pos c) fun _ _ _ _ _ => .int _
def vLt : V2 := vI (fun _ _ => True) fun i j => .bl (decide (i < j))
theorem o2_lt : O2 S oLt vLt := o2_I (fun i j h _ => rfl) fun _ _ _ _ _ => .bl _
def vLe : V2 := vI (fun _ _ => True) fun i j => .bl (decide (i ≤ j))
theorem o2_le : O2 S oLe vLe := o2_I (fun i j h _ => rfl) fun _ _ _ _ _ => .bl _
def vGt : V2 := vI (fun _ _ => True) fun i j => .bl (decide (j < i))
theorem o2_gt : O2 S oGt vGt := o2_I (fun i j h _ => rfl) fun _ _ _ _ _ => .bl _
def vGe : V2 := vI (fun _ _ => True) fun i j => .bl (decide (j ≤ i))
theorem o2_ge : O2 S oGe vGe := o2_I (fun i j h _ => rfl) fun _ _ _ _ _ => .bl _
def vAdd : V2 := fun x y Q => match x, y with
  | .int i, .int j => Q (.int (i + j))
  | .tup xs, .tup ys => xs.length + ys.length ≤ sizeLine ∧ Q (.tup (xs ++ ys))
  | .lst xs, .lst ys => xs.length + ys.length ≤ sizeLine ∧ Q (.lst (xs ++ ys))
  | _, _ => False
theorem Good.newL {p q : Nat} {B : Nat → Prop} {h : AH} {c : Nat} {xs : List D} {ts : List T} (G : Good S p q B h c) (r : Rds p B h xs ts) :
    Ge p h (h ++ [.lst xs]) ∧ Good S p q B (h ++ [.lst xs]) c ∧ Own p (fun m => B m ∨ m = h.length) (h ++ [.lst xs]) h.length (.lst ts) := by
  have g : Ge p h (h ++ [.lst xs]) := Ge.app
  refine ⟨g, G.app r.isBelow, .lst (xs := xs) (by rw [List.getElem?_append_right (Nat.le_refl _)]; simp) ?_⟩
  exact (r.blk (B' := fun m => B m ∨ m = h.length) fun n b => by rcases b with b | b; exact .inl b; exact .inr (by omega)).ge g (.inl G.bp)
theorem Good.newL' {p q : Nat} {B : Nat → Prop} {h : AH} {c : Nat} {xs : List D} {ts : List T} (G : Good S p q B h c) (r : Rds p B h xs ts) :
    Ge p h (h ++ [.lst xs]) ∧ Good S p q B (h ++ [.lst xs]) c ∧ Rd p B (h ++ [.lst xs]) (.ref h.length) (.lst ts) := by
  obtain ⟨a, b, o⟩ := G.newL r
  exact ⟨a, b, o.rd (q := q) fun z => by have := G.al _ z; omega⟩
theorem o2_add : O2 S oAddA vAdd := fun p q B h c x y a b Q G rx ry w => by
  unfold vAdd at w
  split at w
  · have := rx.int; subst this
    have := ry.int; subst this
    exact ⟨_, h, _, rfl, Ge.refl, G, .int _, w⟩
  · obtain ⟨xs, rfl, r1⟩ := rx.tup
    obtain ⟨ys, rfl, r2⟩ := ry.tup
    refine ⟨.tup (xs ++ ys), h, _, ?_, Ge.refl, G, .tup (r1.app r2), w.2⟩
    show orOp oAdd (orOp oCatT oCatL) (.tup xs) (.tup ys) h = _
    simp only [orOp, oAdd, oI0, oCatT]
    rw [if_pos (by rw [r1.length, r2.length]; exact w.1)]
  · obtain ⟨n, xs, r1, rfl, e1⟩ := rx.lst
    obtain ⟨m, ys, r2, rfl, e2⟩ := ry.lst
    obtain ⟨g, G', r⟩ := G.newL' (r1.app r2)
    refine ⟨_, _, _, ?_, g, G', r, w.2⟩
    show orOp oAdd (orOp oCatT oCatL) (.ref n) (.ref m) h = _
    simp only [orOp, oAdd, oI0, oCatT, oCatL, e1, e2]
    rw [if_pos (by rw [r1.length, r2.length]; exact w.1)]
    rfl
  · exact w.elim
def vCat : V2 := fun x y Q => match x, y with
  | .lst xs, .lst ys => xs.length + ys.length ≤ sizeLine ∧ Q (.lst (xs ++ ys))
  | _, _ => False
def vMulA : V2 := fun x y Q => match x, y with
  | .int i, .int j => CMulF i j ∧ Q (.int (i * j))
  | .tup xs, .int k => (xs ≠ [] ∧ 1 ≤ k ∧ k < 1000000 ∧ xs.length * k.toNat ≤ sizeLine) ∧ Q (.tup (List.replicate k.toNat xs).flatten)
  | .lst xs, .int k => (0 ≤ k ∧ k < 1000000 ∧ xs.length * k.toNat ≤ sizeLine) ∧ Q (.lst (List.replicate k.toNat xs).flatten)
  | _, _ => False
theorem o2_mulA : O2 S oMulA vMulA := fun p q B h c x y a b Q G rx ry w => by
  unfold vMulA at w
  split at w
  · rename_i i j
    have := rx.int; subst this
    have := ry.int; subst this
    refine ⟨.int (i * j), h, _, ?_, Ge.refl, G, .int _, w.2⟩
    show orOp oMul (orOp oRepT oRepL) (.int i) (.int j) h = _
    unfold orOp
    rw [oMul_c w.1]
  · rename_i ts k
    obtain ⟨xs, rfl, r1⟩ := rx.tup
    have := ry.int; subst this
    refine ⟨_, h, _, ?_, Ge.refl, G, .tup (r1.rep _), w.2⟩
    show orOp oMul (orOp oRepT oRepL) (.tup xs) (.int k) h = _
    simp only [orOp, oMul, oI, oRepT]
    rw [if_pos ⟨fun z => w.1.1 (by subst z; cases r1; rfl), by rw [r1.length]; exact w.1.2⟩]
  · rename_i ts k
    obtain ⟨n, xs, r1, rfl, e1⟩ := rx.lst
    have := ry.int; subst this
    obtain ⟨g, G', r⟩ := G.newL' (r1.rep k.toNat)
    refine ⟨_, _, _, ?_, g, G', r, w.2⟩
    show orOp oMul (orOp oRepT oRepL) (.ref n) (.int k) h = _
    simp only [orOp, oMul, oI, oRepT, oRepL, e1]
    rw [if_pos (by rw [r1.length]; exact w.1)]
    rfl
  · exact w.elim
end
end EV
set_option Elab.async false
set_option linter.all false
set_option autoImplicit false
set_option maxRecDepth 100000
namespace EV
open PySem PySem.Spec L2
mutual
def T.pd : T → PyData
  | .non => .none
  | .bl b => .bool b
  | .int i => .int i
  | .str x => .str x
  | .tup xs => .tuple (T.pds xs)
  | .lst xs => .list (T.pds xs)
  | .dct _ => .dict []
  | .dtt _ => .none
  | .exc _ _ _ => .none
  | .pen => .none
def T.pds : List T → List PyData
  | [] => []
  | x :: xs => T.pd x :: T.pds xs
end
mutual
def T.dep : T → Nat
  | .tup xs => T.deps xs + 1
  | .lst xs => T.deps xs + 1
  | _ => 0
def T.deps : List T → Nat
  | [] => 0
  | x :: xs => max (T.dep x) (T.deps xs)
end
mutual
/-- no dict, no pen -/
def T.plain : T → Bool
  | .tup xs => T.plains xs
  | .lst xs => T.plains xs
  | .str x => PyData.canLay0 (.str x)
  | .dct _ => false
  | .dtt _ => false
  | .exc _ _ _ => false
  | .pen => false
  | _ => true
def T.plains : List T → Bool
  | [] => true
  | x :: xs => T.plain x && T.plains xs
end
mutual
/-- no dict but the empty one, no pen -/
def T.repb : T → Bool
  | .tup xs => T.repbs xs
  | .lst xs => T.repbs xs
  | .dct [] => true
  | .dct (_ :: _) => false
  | .dtt _ => false
  | .exc _ _ _ => false
  | .pen => false
  | _ => true
def T.repbs : List T → Bool
  | [] => true
  | x :: xs => T.repb x && T.repbs xs
end
section
variable {p : Nat} {B : Nat → Prop} {h : AH}
mutual
theorem Rd.toP : ∀ {d : D} {t : T} (n : Nat), Rd p B h d t → t.plain = true → t.dep ≤ n → EV.toP h (n + 1) d = some t.pd
  | _, _, n, .non, _, _ => by simp [EV.toP, T.pd]
  | _, _, n, .bl b, _, _ => by simp [EV.toP, T.pd]
  | _, _, n, .int b, _, _ => by simp [EV.toP, T.pd]
  | _, _, n, .str b, _, _ => by simp [EV.toP, T.pd]
  | _, _, 0, .tup r, _, l => by simp [T.dep] at l
  | _, _, n + 1, .tup r, a, l => by
    simp only [EV.toP, T.pd, Rds.toP n r (by simpa [T.plain] using a) (by simp only [T.dep] at l; omega), Option.map_some]
  | _, _, 0, .lst _ _ r, _, l => by simp [T.dep] at l
  | _, _, n + 1, .lst e _ r, a, l => by
    simp only [EV.toP, T.pd, e, Rds.toP n r (by simpa [T.plain] using a) (by simp only [T.dep] at l; omega), Option.map_some]
  | _, _, n, .dct _ _ _, a, _ => by simp [T.plain] at a
  | _, _, n, .dtt _ _ _, a, _ => by simp [T.plain] at a
  | _, _, n, .exc _, a, _ => by simp [T.plain] at a
  | _, _, n, .pen _, a, _ => by simp [T.plain] at a
theorem Rds.toP : ∀ {d : List D} {t : List T} (n : Nat), Rds p B h d t → T.plains t = true → T.deps t ≤ n → EV.toPs h (n + 1) d = some (T.pds t)
  | _, _, n, .nil, _, _ => by simp [EV.toPs, T.pds]
  | _, _, n, .cons a b, e, l => by
    simp only [T.plains, Bool.and_eq_true] at e
    simp only [T.deps] at l
    simp only [EV.toPs, T.pds, Rd.toP n a e.1 (by omega), Rds.toP n b e.2 (by omega)]
end
mutual
theorem Rd.toPz : ∀ {d : D} {t : T} (n : Nat), Rd p B h d t → t.repb = true → t.dep ≤ n → EV.toPz h (n + 1) d = some t.pd
  | _, _, n, .non, _, _ => by simp [EV.toPz, T.pd]
  | _, _, n, .bl b, _, _ => by simp [EV.toPz, T.pd]
  | _, _, n, .int b, _, _ => by simp [EV.toPz, T.pd]
  | _, _, n, .str b, _, _ => by simp [EV.toPz, T.pd]
  | _, _, 0, .tup r, _, l => by simp [T.dep] at l
  | _, _, n + 1, .tup r, a, l => by
    simp only [EV.toPz, T.pd, Rds.toPz n r (by simpa [T.repb] using a) (by simp only [T.dep] at l; omega), Option.map_some]
  | _, _, 0, .lst _ _ r, _, l => by simp [T.dep] at l
  | _, _, n + 1, .lst e _ r, a, l => by
    simp only [EV.toPz, T.pd, e, Rds.toPz n r (by simpa [T.repb] using a) (by simp only [T.dep] at l; omega), Option.map_some]
  | _, _, n, .dct e _ .nil, _, _ => by simp only [EV.toPz, T.pd, e]
  | _, _, n, .dct _ _ (.cons _ _), a, _ => by simp [T.repb] at a
  | _, _, n, .dtt _ _ _, a, _ => by simp [T.repb] at a
  | _, _, n, .exc _, a, _ => by simp [T.repb] at a
  | _, _, n, .pen _, a, _ => by simp [T.repb] at a
theorem Rds.toPz : ∀ {d : List D} {t : List T} (n : Nat), Rds p B h d t → T.repbs t = true → T.deps t ≤ n → EV.toPzs h (n + 1) d = some (T.pds t)
  | _, _, n, .nil, _, _ => by simp [EV.toPzs, T.pds]
  | _, _, n, .cons a b, e, l => by
    simp only [T.repbs, Bool.and_eq_true] at e
    simp only [T.deps] at l
    simp only [EV.toPzs, T.pds, Rd.toPz n a e.1 (by omega), Rds.toPz n b e.2 (by omega)]
end
theorem RdX.toP {d : D} {t : T} {n : Nat} (r : RdX p B h d t) (a : t.plain = true) (l : t.dep ≤ n) : EV.toP h (n + 1) d = some t.pd := by
  rcases r with r | ⟨m, rfl, ne, o⟩
  · exact r.toP n a l
  · cases o with
    | lst e r =>
      cases n with
      | zero => simp [T.dep] at l
      | succ n => simp only [EV.toP, T.pd, e, Rds.toP n r (by simpa [T.plain] using a) (by simp only [T.dep] at l; omega), Option.map_some]
    | dct e r => simp [T.plain] at a
    | dtt e r => simp [T.plain] at a
theorem RdX.toPz {d : D} {t : T} {n : Nat} (r : RdX p B h d t) (a : t.repb = true) (l : t.dep ≤ n) : EV.toPz h (n + 1) d = some t.pd := by
  rcases r with r | ⟨m, rfl, ne, o⟩
  · exact r.toPz n a l
  · cases o with
    | lst e r =>
      cases n with
      | zero => simp [T.dep] at l
      | succ n => simp only [EV.toPz, T.pd, e, Rds.toPz n r (by simpa [T.repb] using a) (by simp only [T.dep] at l; omega), Option.map_some]
    | dct e r =>
      cases r with
      | nil => simp only [EV.toPz, T.pd, e]
      | cons _ _ => simp [T.repb] at a
    | dtt e r => simp [T.repb] at a
end
mutual
theorem T.pd_lay : ∀ t : T, t.plain = true → PyData.canLay0 t.pd = true
  | .non, _ => rfl
  | .bl _, _ => rfl
  | .int _, _ => rfl
  | .str x, e => by simpa [T.plain, T.pd] using e
  | .tup xs, e => by simpa only [T.pd, PyData.canLay0] using T.pds_lay xs (by simpa [T.plain] using e)
  | .lst xs, e => by simpa only [T.pd, PyData.canLay0] using T.pds_lay xs (by simpa [T.plain] using e)
  | .dct _, e => by simp [T.plain] at e
  | .dtt _, e => by simp [T.plain] at e
  | .exc _ _ _, e => by simp [T.plain] at e
  | .pen, e => by simp [T.plain] at e
theorem T.pds_lay : ∀ t : List T, T.plains t = true → PyData.canLayAll0 (T.pds t) = true
  | [], _ => rfl
  | x :: xs, e => by
    simp only [T.plains, Bool.and_eq_true] at e
    simp only [T.pds, PyData.canLayAll0, Bool.and_eq_true]
    exact ⟨T.pd_lay x e.1, T.pds_lay xs e.2⟩
end
mutual
theorem T.pd_dep : ∀ t : T, t.pd.depth ≤ t.dep + 1
  | .non => by simp [T.pd, PyData.depth]
  | .bl _ => by simp [T.pd, PyData.depth]
  | .int _ => by simp [T.pd, PyData.depth]
  | .str x => by simp [T.pd, PyData.depth]
  | .tup xs => by have := T.pds_dep xs; simp only [T.pd, PyData.depth, T.dep]; omega
  | .lst xs => by have := T.pds_dep xs; simp only [T.pd, PyData.depth, T.dep]; omega
  | .dct _ => by simp [T.pd, PyData.depth, PyData.depthKv]
  | .dtt _ => by simp [T.pd, PyData.depth]
  | .exc _ _ _ => by simp [T.pd, PyData.depth]
  | .pen => by simp [T.pd, PyData.depth]
theorem T.pds_dep : ∀ t : List T, PyData.depthAll (T.pds t) ≤ T.deps t + 1
  | [] => by simp [T.pds, PyData.depthAll]
  | x :: xs => by
    have := T.pd_dep x
    have := T.pds_dep xs
    simp only [T.pds, PyData.depthAll, T.deps]; omega
end
def T.okq (t : T) : Prop := t.plain = true ∧ t.dep ≤ 39
theorem T.okq.shaped {t : T} (k : t.okq) : SeqAt.shaped t.pd = true := by
  have := T.pd_dep t
  simp only [SeqAt.shaped, T.pd_lay t k.1, Bool.true_and, decide_eq_true_eq]
  have := k.2; omega
section
variable {S : PenSys} {O : List Nat}
def vEq : V2 := fun x y Q => match x, y with
  | .str a, .str b => Q (.bl (decide (a = b)))
  | x, y => x.okq ∧ y.okq ∧ Q (.bl (PyData.eqv x.pd y.pd))
def vNe : V2 := fun x y Q => match x, y with
  | .str a, .str b => Q (.bl (!decide (a = b)))
  | x, y => x.okq ∧ y.okq ∧ Q (.bl (!PyData.eqv x.pd y.pd))
theorem dataOp_ok {p : Nat} {B : Nat → Prop} {h : AH} {x y : D} {a b : T} {g : PyData → PyData → Bool} (rx : RdX p B h x a) (ry : RdX p B h y b) (ka : a.okq) (kb : b.okq) : dataOp g x y h = .ok (.bl (g a.pd b.pd)) h := by
  have e1 := rx.toP (n := 39) ka.1 ka.2
  have e2 := ry.toP (n := 39) kb.1 kb.2
  unfold dataOp
  show (match EV.toP h (39 + 1) x, EV.toP h (39 + 1) y with | some d, some e => if SeqAt.shaped d = true ∧ SeqAt.shaped e = true then R.ok (D.bl (g d e)) h else .bad | _, _ => .bad) = _
  rw [e1, e2]
  exact if_pos ⟨ka.shaped, kb.shaped⟩
theorem strOp_or {f : Str → Str → Bool} {g : PyData → PyData → Bool} {x y : D} {h : AH} {b : Bool} (e : dataOp g x y h = .ok (.bl b) h) (k : ∀ a b, x = .str a → y = .str b → False) : orOp (strOp f) (dataOp g) x y h = .ok (.bl b) h := by
  unfold orOp
  have : strOp f x y h = .bad := by
    unfold strOp
    split
    · exact (k _ _ rfl rfl).elim
    · rfl
  rw [this]; exact e
theorem o2_eq : O2 S oEq vEq := fun p q B h c x y a b Q G rx ry w => by
  unfold vEq at w
  split at w
  · have := rx.str; subst this
    have := ry.str; subst this
    exact ⟨_, h, _, rfl, Ge.refl, G, .bl _, w⟩
  · rename_i n
    obtain ⟨ka, kb, w⟩ := w
    exact ⟨_, h, _, strOp_or (dataOp_ok rx ry ka kb) (fun a' b' e1 e2 => by
      subst e1; subst e2
      rcases rx with rx | ⟨n, e, _, _⟩
      · rcases ry with ry | ⟨n, e, _, _⟩
        · cases rx; cases ry; exact n _ _ rfl rfl
        · cases e
      · cases e), Ge.refl, G, .bl _, w⟩
theorem o2_ne : O2 S oNe vNe := fun p q B h c x y a b Q G rx ry w => by
  unfold vNe at w
  split at w
  · have := rx.str; subst this
    have := ry.str; subst this
    exact ⟨_, h, _, rfl, Ge.refl, G, .bl _, w⟩
  · rename_i n
    obtain ⟨ka, kb, w⟩ := w
    exact ⟨_, h, _, strOp_or (dataOp_ok rx ry ka kb) (fun a' b' e1 e2 => by
      subst e1; subst e2
      rcases rx with rx | ⟨n, e, _, _⟩
      · rcases ry with ry | ⟨n, e, _, _⟩
        · cases rx; cases ry; exact n _ _ rfl rfl
        · cases e
      · cases e), Ge.refl, G, .bl _, w⟩
noncomputable def tget (kvs : List (T × T)) (k : T) : Option T := by
  classical exact (kvs.find? fun kv => decide (kv.1 = k)).map (·.2)
theorem Rdk.get {p : Nat} {B : Nat → Prop} {h : AH} {k : Key} : ∀ {xs : List (Key × D)} {ts : List (T × T)} {t : T}, Rdk p B h xs ts → tget ts (kT k) = some t → ∃ d, dget xs k = some d ∧ Rd p B h d t
  | _, _, _, .nil, e => by simp [tget] at e
  | _, _, t, .cons (k := k') (x := x) (xs := xs) (ts := ts) a b, e => by
    by_cases q : k' = k
    · subst q
      simp [tget, List.find?_cons] at e
      subst e
      exact ⟨x, by simp [dget, List.find?_cons], a⟩
    · have q' : ¬ kT k' = kT k := fun z => q (kT_inj z)
      have e' : tget ts (kT k) = some t := by simpa [tget, List.find?_cons, q'] using e
      obtain ⟨d, h1, h2⟩ := Rdk.get b e'
      exact ⟨d, by simpa [dget, List.find?_cons, q] using h1, h2⟩
def tAt (xs : List T) (i : Int) (Q : T → Prop) : Prop := match atI xs i with | some t => Q t | none => False
def vIx : V2 := fun x y Q => match x, y with
  | .tup xs, .int i => tAt xs i Q
  | .lst xs, .int i => tAt xs i Q
  | .dct kvs, .int i => (match tget kvs (.int i) with | some t => Q t | none => False)
  | .dct kvs, .str i => (match tget kvs (.str i) with | some t => Q t | none => False)
  | _, _ => False
theorem o2_ix : O2 S oIx vIx := fun p q B h c x y a b Q G rx ry w => by
  unfold vIx at w
  split at w
  · rename_i ts i
    obtain ⟨xs, rfl, r⟩ := rx.tup
    have := ry.int; subst this
    unfold tAt at w
    split at w
    · rename_i t e
      obtain ⟨d, h1, h2⟩ := atI_rd r e
      exact ⟨d, h, t, by simp only [oIx, seqAt, h1], Ge.refl, G, h2, w⟩
    · exact w.elim
  · rename_i ts i
    obtain ⟨n, xs, r, rfl, e1⟩ := rx.lst
    have := ry.int; subst this
    unfold tAt at w
    split at w
    · rename_i t e
      obtain ⟨d, h1, h2⟩ := atI_rd r e
      exact ⟨d, h, t, by simp only [oIx, e1, seqAt, h1], Ge.refl, G, h2, w⟩
    · exact w.elim
  · rename_i kvs i
    obtain ⟨n, xs, r, rfl, e1⟩ := rx.dct
    have := ry.int; subst this
    split at w
    · rename_i t e
      obtain ⟨d, h1, h2⟩ := r.get (k := .inl i) e
      exact ⟨d, h, t, by simp only [oIx, e1, dKey, h1], Ge.refl, G, h2, w⟩
    · exact w.elim
  · rename_i kvs i
    obtain ⟨n, xs, r, rfl, e1⟩ := rx.dct
    have := ry.str; subst this
    split at w
    · rename_i t e
      obtain ⟨d, h1, h2⟩ := r.get (k := .inr i) e
      exact ⟨d, h, t, by simp only [oIx, e1, dKey, h1], Ge.refl, G, h2, w⟩
    · exact w.elim
  · exact w.elim
def T.isN : T → Bool
  | .non => true
  | _ => false
def vIsN : V2 := fun x _ Q => Q (.bl x.isN)
def vNotN : V2 := fun x _ Q => Q (.bl (!x.isN))
theorem RdX.isN {p : Nat} {B : Nat → Prop} {h : AH} {d : D} {t : T} (r : RdX p B h d t) (k : AH) : oIsN d .non k = .ok (.bl t.isN) k ∧ oNotN d .non k = .ok (.bl (!t.isN)) k := by
  rcases r with r | ⟨n, rfl, _, o⟩
  · cases r <;> exact ⟨rfl, rfl⟩
  · cases o <;> exact ⟨rfl, rfl⟩
def vNotB : V2 := fun x y Q => match x, y with | .bl a, .bl b => Q (.bl (!decide (a = b))) | _, _ => False
theorem o2_notB : O2 S oNotB vNotB := fun p q B h c x y a b Q G rx ry w => by
  unfold vNotB at w
  split at w
  · have := rx.bl; subst this
    have := ry.bl; subst this
    exact ⟨_, h, _, rfl, Ge.refl, G, .bl _, w⟩
  · exact w.elim
def T.flat : T → Bool
  | .non => true
  | .bl _ => true
  | .int _ => true
  | .str _ => true
  | _ => false
def T.eqF : T → T → Bool
  | .non, .non => true
  | .bl a, .bl b => a == b
  | .bl a, .int b => (if a then 1 else 0) == b
  | .int a, .bl b => a == (if b then 1 else 0)
  | .int a, .int b => a == b
  | .str a, .str b => a == b
  | _, _ => false
theorem Rd.flat {p : Nat} {B : Nat → Prop} {h : AH} {d : D} {t : T} (r : Rd p B h d t) : flatD d = t.flat := by cases r <;> rfl
theorem Rd.eqF {p : Nat} {B : Nat → Prop} {h : AH} {d e : D} {t u : T} (r : Rd p B h d t) (s : Rd p B h e u) : EV.eqF d e = t.eqF u := by cases r <;> cases s <;> rfl
theorem RdX.rd {p : Nat} {B : Nat → Prop} {h : AH} {d : D} {t : T} (r : RdX p B h d t) (f : t.flat = true) : Rd p B h d t := by
  rcases r with r | ⟨n, rfl, _, o⟩
  · exact r
  · cases o <;> simp [T.flat] at f
abbrev V1 := T → (T → Prop) → Prop
def O1 (S : PenSys) (b : BF) (v : V1) : Prop := ∀ (p q : Nat) (B : Nat → Prop) (h : AH) (c : Nat) (x : D) (a : T) (Q : T → Prop), Good S p q B h c → RdX p B h x a → v a Q →
  ∃ z h' t, b [x] h = .ok z h' ∧ Ge p h h' ∧ Good S p q B h' c ∧ Rd p B h' z t ∧ Q t
def wB1 (v : V1) (f : WE) : WE := fun τ c Q => f τ c fun x c1 => v x fun z => Q z c1
theorem j_b1 {b : BF} {v : V1} {f : EF} {φ : WE} (s : O1 S b v) (a : JX S O f φ) : JE S O (eApp b (aCons f aNil)) (wB1 v φ) := fun p q L B h c σ τ Q G pl r w => by
  obtain ⟨x, h1, tx, c1, e1, g1, G1, r1, k1⟩ := a p q L B h c σ τ _ G pl r w
  obtain ⟨z, h3, t, e3, g3, G3, r3, k3⟩ := s p q B h1 c1 x tx _ G1 r1 k1
  exact ⟨z, h3, t, c1, by rw [eApp_d, aCons_d, e1, bind_ok, aNil_d, bind_ok, bind_ok, e3], g1.trans g3, G3, r3, k3⟩
theorem Rdk.length {p : Nat} {B : Nat → Prop} {h : AH} : ∀ {xs : List (Key × D)} {ts : List (T × T)}, Rdk p B h xs ts → xs.length = ts.length
  | _, _, .nil => rfl
  | _, _, .cons _ b => by simp [Rdk.length b]
def vLen : V1 := fun x Q => match x with
  | .lst xs => Q (.int xs.length)
  | .tup xs => Q (.int xs.length)
  | .dct kvs => Q (.int kvs.length)
  | _ => False
theorem o1_len : O1 S bLen vLen := fun p q B h c x a Q G rx w => by
  unfold vLen at w
  split at w
  · obtain ⟨xs, r, e⟩ := RdX.seq (.inl rx)
    exact ⟨.int xs.length, h, .int xs.length, by simp only [bLen, e], Ge.refl, G, .int _, by rw [r.length]; exact w⟩
  · obtain ⟨xs, r, e⟩ := RdX.seq (.inr rx)
    exact ⟨.int xs.length, h, .int xs.length, by simp only [bLen, e], Ge.refl, G, .int _, by rw [r.length]; exact w⟩
  · obtain ⟨n, xs, r, rfl, e⟩ := rx.dct
    exact ⟨.int xs.length, h, .int xs.length, by simp only [bLen, seqOf, e], Ge.refl, G, .int _, by rw [r.length]; exact w⟩
  · exact w.elim
def vTuple : V1 := fun x Q => match x with
  | .lst xs => Q (.tup xs)
  | .tup xs => Q (.tup xs)
  | _ => False
def vList : V1 := fun x Q => match x with
  | .lst xs => Q (.lst xs)
  | .tup xs => Q (.lst xs)
  | _ => False
def tbls : List T → Option (List Bool)
  | [] => some []
  | .bl b :: r => (tbls r).map (b :: ·)
  | _ => none
def vInt : V1 := fun x Q => match x with
  | .int i => Q (.int i)
  | .bl b => Q (.int (if b then 1 else 0))
  | _ => False
def vAbs : V1 := fun x Q => match x with
  | .int i => Q (.int (if i < 0 then -i else i))
  | _ => False
theorem o1_abs : O1 S bAbs vAbs := fun p q B h c x a Q G rx w => by
  unfold vAbs at w
  split at w
  · have := rx.int; subst this
    exact ⟨_, h, _, rfl, Ge.refl, G, .int _, w⟩
  · exact w.elim
structure T.okr (t : T) : Prop where
  rb : t.repb = true
  dp : t.dep ≤ 39
  sh : t.pd.showable = true
  ln : t.pd.shown.length ≤ sizeLine
def vRepr : V1 := fun x Q => x.okr ∧ Q (.str x.pd.shown)
theorem o1_repr : O1 S bReprZ vRepr := fun p q B h c x a Q G rx w => by
  obtain ⟨k, w⟩ := w
  have e := rx.toPz (n := 39) k.rb k.dp
  refine ⟨_, h, _, ?_, Ge.refl, G, .str _, w⟩
  show (match EV.toPz h (39 + 1) x with | some d => if d.showable = true ∧ d.depth ≤ 60 ∧ d.shown.length ≤ sizeLine then R.ok (D.str d.shown) h else .bad | none => .bad) = _
  rw [e]
  have := T.pd_dep a
  exact if_pos ⟨k.sh, by have := k.dp; omega, k.ln⟩
def T.ty : T → Option Ty
  | .non => some .non | .bl _ => some .bl | .int _ => some .int | .str _ => some .str | .tup _ => some .tup | .lst _ => some .lst | .dct _ => some .dct | .dtt _ => some .dct | .pen => none | .exc _ _ _ => none
def wIsi (c : Ty) (f : WE) : WE := fun τ k Q => f τ k fun x k1 => match x.ty with | some t => Q (.bl (isSub t c)) k1 | none => False
theorem RdX.ty {p : Nat} {B : Nat → Prop} {h : AH} {d : D} {t : T} {y : Ty} (r : RdX p B h d t) (e : t.ty = some y) : tyD d h = some y := by
  rcases r with r | ⟨n, rfl, _, o⟩
  · cases r with
    | lst e1 _ _ => simp only [tyD, e1]; exact e
    | dct e1 _ _ => simp only [tyD, e1]; exact e
    | dtt e1 _ _ => simp only [tyD, e1]; exact e
    | exc _ => cases e
    | pen => simp [T.ty] at e
    | _ => simpa [tyD, T.ty] using e
  · cases o with
    | lst e1 _ => simp only [tyD, e1]; exact e
    | dct e1 _ => simp only [tyD, e1]; exact e
    | dtt e1 _ => simp only [tyD, e1]; exact e
theorem j_isi (k : Ty) {f : EF} {φ : WE} (a : JX S O f φ) : JE S O (eIsi k f) (wIsi k φ) := fun p q L B h c σ τ Q G pl r w => by
  obtain ⟨x, h1, tx, c1, e1, g1, G1, r1, k1⟩ := a p q L B h c σ τ _ G pl r w
  split at k1
  · rename_i y ey
    exact ⟨_, h1, _, c1, by rw [eIsi_d, e1, bind_ok, r1.ty ey], g1, G1, .bl _, k1⟩
  · exact k1.elim
end
end EV
set_option Elab.async false
set_option linter.all false
set_option autoImplicit false
set_option maxRecDepth 100000
namespace EV
open PySem PySem.Spec L2
section
variable {S : PenSys} {O : List Nat}
def wTup (f : WA) : WE := fun τ c Q => f τ c fun ts c1 => ts.length ≤ sizeLine ∧ Q (.tup ts) c1
def wLst (f : WA) : WE := fun τ c Q => f τ c fun ts c1 => ts.length ≤ sizeLine ∧ Q (.lst ts) c1
theorem j_tup {f : AF} {φ : WA} (a : JA S O f φ) : JE S O (eTup f) (wTup φ) := fun p q L B h c σ τ Q G pl r w => by
  obtain ⟨x, h1, tx, c1, e1, g1, G1, r1, k1⟩ := a p q L B h c σ τ _ G pl r w
  exact ⟨.tup x, h1, _, c1, by rw [eTup_d, e1, bind_ok, if_pos (by rw [r1.length]; exact k1.1)], g1, G1, .tup r1, k1.2⟩
theorem jn_lst {f : AF} {φ : WA} (a : JA S O f φ) : JN S O (eLst f) (wLst φ) := fun p q L B h c σ τ Q G pl r w => by
  obtain ⟨x, h1, tx, c1, e1, g1, G1, r1, k1⟩ := a p q L B h c σ τ _ G pl r w
  obtain ⟨g2, G2, o⟩ := G1.newL r1
  exact ⟨_, _, _, c1, by rw [eLst_d, e1, bind_ok, if_pos (by rw [r1.length]; exact k1.1)]; rfl, g1.len, g1.trans g2, G2, o, k1.2⟩
def wDict0 : WE := fun _ c Q => Q (.dct []) c
theorem jn_dict0 : JN S O eDict0 wDict0 := fun p q L B h c σ τ Q G pl r w =>
  ⟨h.length, _, _, c, rfl, Nat.le_refl _, Ge.app, G.app rfl, .dct (xs := []) (by rw [List.getElem?_append_right (Nat.le_refl _)]; simp) .nil, w⟩
def wIf (t : WT) (f g : WE) : WE := fun τ c Q => t τ c fun b c1 => if b = true then f τ c1 Q else g τ c1 Q
def wAnd2 (f g : WE) : WE := fun τ c Q => f τ c fun x c1 => match x with | .bl true => g τ c1 Q | .bl false => Q (.bl false) c1 | _ => False
def wOr2 (f g : WE) : WE := fun τ c Q => f τ c fun x c1 => match x with | .bl true => Q (.bl true) c1 | .bl false => g τ c1 Q | _ => False
def wNot1 (f : WE) : WE := fun τ c Q => f τ c fun x c1 => match x with | .bl b => Q (.bl (!b)) c1 | _ => False
def wNeg (f : WE) : WE := fun τ c Q => f τ c fun x c1 => match x with | .int i => Q (.int (-i)) c1 | _ => False
theorem j_and {f g : EF} {φ ψ : WE} (a : JE S O f φ) (b : JE S O g ψ) : JE S O (eAnd2 f g) (wAnd2 φ ψ) := fun p q L B h c σ τ Q G pl r w => by
  obtain ⟨x, h1, tx, c1, e1, g1, G1, r1, k1⟩ := a p q L B h c σ τ _ G pl r w
  split at k1
  · cases r1
    obtain ⟨v, h2, t2, c2, e2, g2, G2, r2, k2⟩ := b p q L B h1 c1 σ τ Q G1 pl (r.ge g1 G.bp pl) k1
    exact ⟨v, h2, t2, c2, by rw [eAnd2_d, e1, bind_ok]; exact e2, g1.trans g2, G2, r2, k2⟩
  · cases r1
    exact ⟨.bl false, h1, _, c1, by rw [eAnd2_d, e1, bind_ok], g1, G1, .bl _, k1⟩
  · exact k1.elim
theorem j_not {f : EF} {φ : WE} (a : JE S O f φ) : JE S O (eNot1 f) (wNot1 φ) := fun p q L B h c σ τ Q G pl r w => by
  obtain ⟨x, h1, tx, c1, e1, g1, G1, r1, k1⟩ := a p q L B h c σ τ _ G pl r w
  split at k1
  · cases r1
    exact ⟨_, h1, _, c1, by rw [eNot1_d, e1, bind_ok], g1, G1, .bl _, k1⟩
  · exact k1.elim
theorem j_neg {f : EF} {φ : WE} (a : JE S O f φ) : JE S O (eNeg f) (wNeg φ) := fun p q L B h c σ τ Q G pl r w => by
  obtain ⟨x, h1, tx, c1, e1, g1, G1, r1, k1⟩ := a p q L B h c σ τ _ G pl r w
  split at k1
  · cases r1
    exact ⟨_, h1, _, c1, by rw [eNeg_d, e1, bind_ok], g1, G1, .int _, k1⟩
  · exact k1.elim
def wChain (u v : V2) (f g k : WE) : WE := fun τ c Q => f τ c fun x c1 => g τ c1 fun y c2 => u x y fun z => match z with
  | .bl true => k τ c2 fun w c4 => v y w fun z => Q z c4
  | .bl false => Q (.bl false) c2
  | _ => False
theorem j_chain {o o' : Op2} {u v : V2} {f g k : EF} {φ ψ χ : WE} (s : O2 S o u) (s' : O2 S o' v) (a : JX S O f φ) (b : JX S O g ψ) (d : JX S O k χ) : JE S O (eChain o o' f g k) (wChain u v φ ψ χ) := fun p q L B h c σ τ Q G pl r w => by
  obtain ⟨x, h1, tx, c1, e1, g1, G1, r1, k1⟩ := a p q L B h c σ τ _ G pl r w
  have R1 := r.ge g1 G.bp pl
  obtain ⟨y, h2, ty, c2, e2, g2, G2, r2, k2⟩ := b p q L B h1 c1 σ τ _ G1 pl R1 k1
  obtain ⟨z, h3, t, e3, g3, G3, r3, k3⟩ := s p q B h2 c2 x y tx ty _ G2 (r1.ge g2 G.bp) r2 k2
  split at k3
  · cases r3
    obtain ⟨w', h4, tw, c4, e4, g4, G4, r4, k4⟩ := d p q L B h3 c2 σ τ _ G3 pl ((R1.ge g2 G.bp pl).ge g3 G.bp pl) k3
    obtain ⟨z', h5, t5, e5, g5, G5, r5, k5⟩ := s' p q B h4 c4 y w' ty tw _ G4 (r2.ge (g3.trans g4) G.bp) r4 k4
    exact ⟨z', h5, t5, c4, by rw [eChain_d, e1, bind_ok, e2, bind_ok, e3, bind_ok]; show (k σ h3).bind _ = _; rw [e4, bind_ok, e5], g1.trans (g2.trans (g3.trans (g4.trans g5))), G5, r5, k5⟩
  · cases r3
    exact ⟨.bl false, h3, _, c2, by rw [eChain_d, e1, bind_ok, e2, bind_ok, e3, bind_ok], g1.trans (g2.trans g3), G3, .bl _, k3⟩
  · exact k3.elim
def wB (f : WE) : WT := fun τ c Q => f τ c fun x c1 => match x with | .bl b => Q b c1 | _ => False
theorem jt_b {f : EF} {φ : WE} (a : JE S O f φ) : JT S O (EV.tB f) (wB φ) := fun p q L B h c σ τ Q G pl r w => by
  obtain ⟨x, h1, tx, c1, e1, g1, G1, r1, k1⟩ := a p q L B h c σ τ _ G pl r w
  split at k1
  · cases r1
    exact ⟨_, h1, c1, by rw [tB_d, e1, bind_ok], g1, G1, k1⟩
  · exact k1.elim
def wtNot (f : WT) : WT := fun τ c Q => f τ c fun b c1 => Q (!b) c1
def wtAnd (f g : WT) : WT := fun τ c Q => f τ c fun b c1 => if b = true then g τ c1 Q else Q false c1
def wtOr (f g : WT) : WT := fun τ c Q => f τ c fun b c1 => if b = true then Q true c1 else g τ c1 Q
def wtTrue : WT := fun _ c Q => Q true c
theorem jt_not {f : TF} {φ : WT} (a : JT S O f φ) : JT S O (tNot1 f) (wtNot φ) := fun p q L B h c σ τ Q G pl r w => by
  obtain ⟨x, h1, c1, e1, g1, G1, k1⟩ := a p q L B h c σ τ _ G pl r w
  exact ⟨_, h1, c1, by rw [tNot1_d, e1, bind_ok], g1, G1, k1⟩
theorem jt_and {f g : TF} {φ ψ : WT} (a : JT S O f φ) (b : JT S O g ψ) : JT S O (tAnd2 f g) (wtAnd φ ψ) := fun p q L B h c σ τ Q G pl r w => by
  obtain ⟨x, h1, c1, e1, g1, G1, k1⟩ := a p q L B h c σ τ _ G pl r w
  cases x with
  | true =>
    obtain ⟨y, h2, c2, e2, g2, G2, k2⟩ := b p q L B h1 c1 σ τ Q G1 pl (r.ge g1 G.bp pl) (by simpa using k1)
    exact ⟨y, h2, c2, by rw [tAnd2_d, e1, bind_ok, if_pos rfl, e2], g1.trans g2, G2, k2⟩
  | false => exact ⟨false, h1, c1, by rw [tAnd2_d, e1, bind_ok, if_neg Bool.false_ne_true], g1, G1, by simpa using k1⟩
theorem jt_or {f g : TF} {φ ψ : WT} (a : JT S O f φ) (b : JT S O g ψ) : JT S O (tOr2 f g) (wtOr φ ψ) := fun p q L B h c σ τ Q G pl r w => by
  obtain ⟨x, h1, c1, e1, g1, G1, k1⟩ := a p q L B h c σ τ _ G pl r w
  cases x with
  | true => exact ⟨true, h1, c1, by rw [tOr2_d, e1, bind_ok, if_pos rfl], g1, G1, by simpa using k1⟩
  | false =>
    obtain ⟨y, h2, c2, e2, g2, G2, k2⟩ := b p q L B h1 c1 σ τ Q G1 pl (r.ge g1 G.bp pl) (by simpa using k1)
    exact ⟨y, h2, c2, by rw [tOr2_d, e1, bind_ok, if_neg Bool.false_ne_true, e2], g1.trans g2, G2, k2⟩
def woNone : WO := fun _ c Q => Q none c
def woSome (f : WE) : WO := fun τ c Q => f τ c fun x c1 => match x with | .int i => Q (some i) c1 | _ => False
def cutT (xs : List T) (lo hi : Option Int) : List T := (xs.drop (HT.sIx xs.length 0 lo)).take (HT.sIx xs.length xs.length hi - HT.sIx xs.length 0 lo)
def wSl (f : WE) (l u : WO) : WE := fun τ c Q => f τ c fun x c1 => l τ c1 fun lo c2 => u τ c2 fun hi c3 => match x with
  | .tup xs => Q (.tup (cutT xs lo hi)) c3
  | .lst xs => Q (.lst (cutT xs lo hi)) c3
  | _ => False
theorem eSlA_d {f : EF} {l u : OF} {σ : Fr} {h : AH} : eSlA f l u σ h = (f σ h).bind fun x h1 => (l σ h1).bind fun lo h2 => (u σ h2).bind fun hi h3 => slA x lo hi h3 := id rfl
def wSlL (f : WE) (l u : WO) : WE := fun τ c Q => f τ c fun x c1 => l τ c1 fun lo c2 => u τ c2 fun hi c3 => match x with
  | .lst xs => Q (.lst (cutT xs lo hi)) c3
  | _ => False
def wApp (Φ : WF) (f : WA) : WE := fun τ c Q => f τ c fun ts c1 => Φ ts c1 Q
theorem j_app {F : BF} {Φ : WF} {f : AF} {φ : WA} (k : JF S F Φ) (a : JA S O f φ) : JE S O (eApp F f) (wApp Φ φ) := fun p q L B h c σ τ Q G pl r w => by
  obtain ⟨x, h1, tx, c1, e1, g1, G1, r1, k1⟩ := a p q L B h c σ τ _ G pl r w
  obtain ⟨v, h2, t, c2, e2, g2, G2, r2, k2⟩ := k p q B h1 c1 x tx Q G1 r1 k1
  exact ⟨v, h2, t, c2, by rw [eApp_d, e1, bind_ok, e2], g1.trans g2, G2, r2, k2⟩
theorem Rds.sel {p : Nat} {B : Nat → Prop} {h : AH} {xs : List D} {ts : List T} (r : Rds p B h xs ts) : ∀ is : List Nat, Rds p B h (EV.sel is xs) (EV.sel is ts)
  | [] => .nil
  | i :: is => by
    have ih := Rds.sel r is
    unfold EV.sel at ih ⊢
    cases e : ts[i]? with
    | none =>
      have : xs[i]? = none := List.getElem?_eq_none_iff.mpr (by have := List.getElem?_eq_none_iff.mp e; rw [r.length]; exact this)
      rw [List.filterMap_cons_none (by simpa using this), List.filterMap_cons_none (by simpa using e)]
      exact ih
    | some t =>
      obtain ⟨d, h1, h2⟩ := r.get e
      rw [List.filterMap_cons_some (b := d) (by simpa using h1), List.filterMap_cons_some (b := t) (by simpa using e)]
      exact .cons h2 ih
def wAppK (Φ : WF) (is : List Nat) (a b : Nat) (f g : WA) : WE := fun τ c Q => f τ c fun ts c1 => g τ c1 fun us c2 => (ts.length = a ∧ us.length = b) ∧ Φ (sel is (ts ++ us)) c2 Q
theorem j_appK {F : BF} {Φ : WF} {is : List Nat} {m n : Nat} {f g : AF} {φ ψ : WA} (k : JF S F Φ) (a : JA S O f φ) (b : JA S O g ψ) : JE S O (eAppK F is m n f g) (wAppK Φ is m n φ ψ) := fun p q L B h c σ τ Q G pl r w => by
  obtain ⟨x, h1, tx, c1, e1, g1, G1, r1, k1⟩ := a p q L B h c σ τ _ G pl r w
  obtain ⟨y, h2, ty, c2, e2, g2, G2, r2, k2⟩ := b p q L B h1 c1 σ τ _ G1 pl (r.ge g1 G.bp pl) k1
  obtain ⟨v, h3, t, c3, e3, g3, G3, r3, k3⟩ := k p q B h2 c2 _ _ Q G2 (((r1.ge g2 G.bp).app r2).sel is) k2.2
  exact ⟨v, h3, t, c3, by rw [eAppK_d, e1, bind_ok, e2, bind_ok, if_pos (by rw [r1.length, r2.length]; exact k2.1), e3], g1.trans (g2.trans g3), G3, r3, k3⟩
abbrev WI := TFr → Nat → (List T → Nat → Prop) → Prop
def JI (S : PenSys) (O : List Nat) (f : IF) (φ : WI) : Prop := ∀ (p q L : Nat) (B : Nat → Prop) (h : AH) (c : Nat) (σ : Fr) (τ : TFr) (Q : List T → Nat → Prop), Good S p q B h c → p < L → RF p B L O h σ τ → φ τ c Q →
  ∃ s h' ts c', f σ h = .ok s h' ∧ Ge p h h' ∧ Good S p q B h' c' ∧ Rds p B h' s.items ts ∧ (∀ k, (∀ n, n < h'.length → n ≠ p → k[n]? = h'[n]?) → s.chk k) ∧ Q ts c'
def JIS (S : PenSys) (O : List Nat) (f : IF) (φ : WI) : Prop := ∀ (p q L : Nat) (B : Nat → Prop) (h : AH) (c : Nat) (σ : Fr) (τ : TFr) (Q : List T → Nat → Prop), Good S p q B h c → p < L → RF p B L O h σ τ → φ τ c Q →
  ∃ s h' ts c', f σ h = .ok s h' ∧ Ge p h h' ∧ Good S p q B h' c' ∧ Rds p B h' s.items ts ∧ (∀ k, (∀ n, n < h'.length → ¬ B n → k[n]? = h'[n]?) → s.chk k) ∧ Q ts c'
def wSeq (f : WE) : WI := fun τ c Q => f τ c fun x c1 => match x with | .lst ts => Q ts c1 | .tup ts => Q ts c1 | _ => False
theorem jis_seq {f : EF} {φ : WE} (a : JE S O f φ) : JIS S O (iSeq f) (wSeq φ) := fun p q L B h c σ τ Q G pl r w => by
  obtain ⟨x, h1, tx, c1, e1, g1, G1, r1, k1⟩ := a p q L B h c σ τ _ G pl r w
  split at k1
  · cases r1 with
    | lst en b r =>
      rename_i n xs
      refine ⟨held n xs, h1, _, c1, by unfold iSeq; rw [e1, bind_ok]; simp only [srcD, en], g1, G1, r, fun k hk => ?_, k1⟩
      show k[n]? = _
      rw [hk n (List.getElem?_eq_some_iff.mp en).1 b]; exact en
  · cases r1 with
    | tup r => exact ⟨still _, h1, _, c1, by unfold iSeq; rw [e1, bind_ok]; rfl, g1, G1, r, fun k hk => trivial, k1⟩
  · exact k1.elim
def rangeT (lo : Int) (n : Nat) : List T := (List.range n).map fun (i : Nat) => T.int (lo + (i : Int))
theorem rangeT_rd {p : Nat} {B : Nat → Prop} {h : AH} (lo : Int) (n : Nat) : Rds p B h (rangeD lo n) (rangeT lo n) := by
  unfold rangeD rangeT
  generalize List.range n = l
  induction l with
  | nil => exact .nil
  | cons a l ih => exact .cons (.int _) ih
def wR1 (f : WE) : WI := fun τ c Q => f τ c fun x c1 => match x with | .int j => (-(2 ^ 62) ≤ j ∧ j < 2 ^ 62) ∧ Q (rangeT 0 j.toNat) c1 | _ => False
def wR2 (f g : WE) : WI := fun τ c Q => f τ c fun x c1 => g τ c1 fun y c2 => match x, y with | .int i, .int j => (-(2 ^ 62) ≤ i ∧ i < 2 ^ 62 ∧ -(2 ^ 62) ≤ j ∧ j < 2 ^ 62) ∧ Q (rangeT i (j - i).toNat) c2 | _, _ => False
theorem jis_r1 {f : EF} {φ : WE} (a : JE S O f φ) : JIS S O (iR1 (aCons f aNil)) (wR1 φ) := fun p q L B h c σ τ Q G pl r w => by
  obtain ⟨x, h1, tx, c1, e1, g1, G1, r1, k1⟩ := a p q L B h c σ τ _ G pl r w
  split at k1
  · cases r1
    exact ⟨still _, h1, _, c1, by unfold iR1; rw [aCons_d, e1, bind_ok, aNil_d, bind_ok, bind_ok]; exact if_pos k1.1, g1, G1, rangeT_rd _ _, fun k hk => trivial, k1.2⟩
  · exact k1.elim
def enumT (xs : List T) : List T := xs.mapIdx fun i x => .tup [.int (i : Nat), x]
def wEnum (f : WE) : WI := fun τ c Q => f τ c fun x c1 => match x with | .lst ts => Q (enumT ts) c1 | .tup ts => Q (enumT ts) c1 | _ => False
theorem JIS.i {f : IF} {φ : WI} (a : JIS S O f φ) : JI S O f φ := fun p q L B h c σ τ Q G pl r w => by
  obtain ⟨s, h', ts, c', e, g, G', r', k, w⟩ := a p q L B h c σ τ Q G pl r w
  exact ⟨s, h', ts, c', e, g, G', r', fun m hm => k m fun n l b => hm n l fun z => b (z ▸ G.bp), w⟩
abbrev WG := T → TFr → (TFr → Prop) → Prop
abbrev WGs := List T → TFr → (TFr → Prop) → Prop
def JG (O : List Nat) (g : GF) (γ : WG) : Prop := ∀ (p L : Nat) (B : Nat → Prop) (h : AH) (d : D) (t : T) (σ : Fr) (τ : TFr) (Q : TFr → Prop), Rd p B h d t → RF p B L O h σ τ → γ t τ Q → ∃ σ' τ', g d σ h = .ok σ' h ∧ RF p B L O h σ' τ' ∧ Q τ'
def JGs (O : List Nat) (g : GFs) (γ : WGs) : Prop := ∀ (p L : Nat) (B : Nat → Prop) (h : AH) (d : List D) (t : List T) (σ : Fr) (τ : TFr) (Q : TFr → Prop), Rds p B h d t → RF p B L O h σ τ → γ t τ Q → ∃ σ' τ', g d σ h = .ok σ' h ∧ RF p B L O h σ' τ' ∧ Q τ'
def wgSet (i : Nat) : WG := fun t τ Q => Q (τ.set i (some t))
theorem RF.set {p L : Nat} {B : Nat → Prop} {h : AH} {σ : Fr} {τ : TFr} {d : D} {t : T} (r : RF p B L O h σ τ) (i : Nat) (hi : i ∉ O) (rd : Rd p B h d t) : RF p B L O h (σ.set i (some d)) (τ.set i (some t)) := by
  refine ⟨by simp [r.len], fun j u ho e => ?_, fun j u ho e => ?_, fun j k n t' u ho ho' ne e1 e2 e3 e4 => ?_⟩
  · by_cases q : i = j
    · subst q
      have hl : i < τ.length := by
        have := (List.getElem?_eq_some_iff.mp e).1
        simpa using this
      rw [List.getElem?_set_self hl] at e
      cases e
      exact ⟨d, List.getElem?_set_self (by rw [r.len]; exact hl), rd⟩
    · rw [List.getElem?_set_ne q] at e ⊢
      exact r.va j u ho e
  · have q : i ≠ j := fun z => hi (z ▸ ho)
    rw [List.getElem?_set_ne q] at e ⊢
    exact r.ow j u ho e
  · have q : i ≠ j := fun z => hi (z ▸ ho)
    have q' : i ≠ k := fun z => hi (z ▸ ho')
    rw [List.getElem?_set_ne q] at e1 e3
    rw [List.getElem?_set_ne q'] at e2 e4
    exact r.nd j k n t' u ho ho' ne e1 e2 e3 e4
theorem jg_set (i : Nat) (hi : i ∉ O := by decide) : JG O (gSet i) (wgSet i) := fun p L B h d t σ τ Q rd r w => ⟨_, _, rfl, r.set i hi rd, w⟩
def wgNil : WGs := fun ts τ Q => match ts with | [] => Q τ | _ => False
def wgCons (g : WG) (r : WGs) : WGs := fun ts τ Q => match ts with | t :: ts => g t τ fun τ1 => r ts τ1 Q | [] => False
theorem jgs_nil : JGs O gsNil wgNil := fun p L B h d t σ τ Q rd r w => by
  unfold wgNil at w
  split at w
  · cases rd; exact ⟨σ, τ, rfl, r, w⟩
  · exact w.elim
theorem jgs_cons {g : GF} {gs : GFs} {γ : WG} {γs : WGs} (a : JG O g γ) (b : JGs O gs γs) : JGs O (gsCons g gs) (wgCons γ γs) := fun p L B h d t σ τ Q rd r w => by
  unfold wgCons at w
  split at w
  · cases rd with
    | cons r1 r2 =>
      obtain ⟨σ1, τ1, e1, R1, w1⟩ := a p L B h _ _ σ τ _ r1 r w
      obtain ⟨σ2, τ2, e2, R2, w2⟩ := b p L B h _ _ σ1 τ1 _ r2 R1 w1
      exact ⟨σ2, τ2, by rw [gsCons_d, e1, bind_ok, e2], R2, w2⟩
  · exact w.elim
def wgSeq (n : Nat) (g : WGs) : WG := fun t τ Q => match t with
  | .tup ts => ts.length = n ∧ g ts τ Q
  | .lst ts => ts.length = n ∧ g ts τ Q
  | _ => False
theorem jg_seq {n : Nat} {g : GFs} {γ : WGs} (a : JGs O g γ) : JG O (gSeq n g) (wgSeq n γ) := fun p L B h d t σ τ Q rd r w => by
  unfold wgSeq at w
  split at w
  · obtain ⟨xs, rx, e⟩ := RdX.seq (.inr (.inl rd))
    obtain ⟨σ1, τ1, e1, R1, w1⟩ := a p L B h xs _ σ τ _ rx r w.2
    exact ⟨σ1, τ1, by rw [gSeq_d, e]; simp only [rx.length, w.1, if_true]; exact e1, R1, w1⟩
  · obtain ⟨xs, rx, e⟩ := RdX.seq (.inl (.inl rd))
    obtain ⟨σ1, τ1, e1, R1, w1⟩ := a p L B h xs _ σ τ _ rx r w.2
    exact ⟨σ1, τ1, by rw [gSeq_d, e]; simp only [rx.length, w.1, if_true]; exact e1, R1, w1⟩
  · exact w.elim
def wipeT (τ : TFr) : List Nat → TFr
  | [] => τ
  | v :: vs => (wipeT τ vs).set v none
theorem RF.blk {p L : Nat} {B B' : Nat → Prop} {h : AH} {σ : Fr} {τ : TFr} (r : RF p B L O h σ τ) (k : ∀ n, B' n → B n ∨ h.length ≤ n) (k' : ∀ n, B n → B' n) : RF p B' L O h σ τ := by
  refine ⟨r.len, fun i t ho e => ?_, fun i t ho e => ?_, r.nd⟩
  · obtain ⟨d, h1, h2⟩ := r.va i t ho e
    exact ⟨d, h1, h2.blk k⟩
  · obtain ⟨n, h1, h2, h3, h4⟩ := r.ow i t ho e
    refine ⟨n, h1, k' n h2, h3, ?_⟩
    cases h4 with
    | lst e' r => exact .lst e' (r.blk k)
    | dct e' r => exact .dct e' (r.blk k)
    | dtt e' r => exact .dtt e' (r.blk k)
def wlc (g : WG) (t : WT) (e : WE) (τ0 : TFr) : List T → List T → Nat → QT → Prop
  | [], acc, c, Q => Q (.lst acc) c
  | x :: xs, acc, c, Q => g x τ0 fun τ1 => t τ1 c fun b c1 => if b = true then e τ1 c1 fun y c2 => acc.length < sizeLine ∧ wlc g t e τ0 xs (acc ++ [y]) c2 Q else wlc g t e τ0 xs acc c1 Q
def wLC (f : WI) (vs : List Nat) (g : WG) (t : WT) (e : WE) : WE := fun τ c Q => f τ c fun ts c1 => wlc g t e (wipeT τ vs) ts [] c1 Q
theorem Good.blk {p q : Nat} {B : Nat → Prop} {h : AH} {c n : Nat} (G : Good S p q B h c) (l : n < h.length) : Good S p q (fun m => B m ∨ m = n) h c :=
  ⟨G.pn, .inl G.bp, .inl G.bq, fun m b => by rcases b with b | b; exact G.al m b; omega, G.cl⟩
theorem Good.unblk {p q : Nat} {B B' : Nat → Prop} {h : AH} {c : Nat} (G : Good S p q B' h c) (k : ∀ m, B m → B' m) (bp : B p) (bq : B q) : Good S p q B h c :=
  ⟨G.pn, bp, bq, fun m b => G.al m (k m b), G.cl⟩
end
end EV
set_option Elab.async false
set_option linter.all false
set_option autoImplicit false
set_option maxRecDepth 100000
namespace EV
open PySem PySem.Spec L2
inductive TFl where
  | next (τ : TFr) | brk (τ : TFr) | cont (τ : TFr) | ret (t : T)
abbrev QS := TFl → Nat → Prop
abbrev WS := TFr → Nat → QS → Prop
structure Step (S : PenSys) (p q L : Nat) (B : Nat → Prop) (h : AH) (B' : Nat → Prop) (h' : AH) (c' : Nat) : Prop where
  len : h.length ≤ h'.length
  at_ : ∀ n, n < h.length → n ≠ p → (¬ B n ∨ n < L) → h'[n]? = h[n]?
  good : Good S p q B' h' c'
  new : ∀ m, B' m → B m ∨ h.length ≤ m
  old : ∀ m, m < L → B m → B' m
section
variable {S : PenSys} {p q L : Nat} {B B1 B2 : Nat → Prop} {h h1 h2 : AH} {c c1 c2 : Nat}
theorem Step.of_ge (g : Ge p h h1) (G : Good S p q B h1 c1) : Step S p q L B h B h1 c1 := ⟨g.len, fun n l ne _ => g.at_ n l ne, G, fun m b => .inl b, fun m _ b => b⟩
theorem Step.trans (a : Step S p q L B h B1 h1 c1) (b : Step S p q L B1 h1 B2 h2 c2) : Step S p q L B h B2 h2 c2 := by
  refine ⟨Nat.le_trans a.len b.len, fun n l ne k => ?_, b.good, fun m z => ?_, fun m l z => b.old m l (a.old m l z)⟩
  · rw [b.at_ n (Nat.lt_of_lt_of_le l a.len) ne ?_, a.at_ n l ne k]
    rcases k with k | k
    · refine .inl fun z => ?_
      rcases a.new n z with z | z
      · exact k z
      · omega
    · exact .inr k
  · rcases b.new m z with z | z
    · exact a.new m z
    · exact .inr (by have := a.len; omega)
inductive RdR (p L : Nat) (B : Nat → Prop) (h : AH) : Bool → D → T → Prop
  | val {v : D} {t : T} : Rd p B h v t → RdR p L B h false v t
  | own {N : Bool} {n : Nat} {t : T} : L ≤ n → Own p (fun m => B m ∨ m = n) h n t → RdR p L B h N (.ref n) t
inductive FlR (p L : Nat) (B : Nat → Prop) (N : Bool) (O Ob : List Nat) (h : AH) : Fl → TFl → Prop
  | next {σ : Fr} {τ : TFr} : RF p B L O h σ τ → FlR p L B N O Ob h (.next σ) (.next τ)
  | brk {σ : Fr} {τ : TFr} : RF p B L Ob h σ τ → FlR p L B N O Ob h (.brk σ) (.brk τ)
  | cont {σ : Fr} {τ : TFr} : RF p B L Ob h σ τ → FlR p L B N O Ob h (.cont σ) (.cont τ)
  | ret {v : D} {t : T} : RdR p L B h N v t → FlR p L B N O Ob h (.ret v) (.ret t)
end
def JS (S : PenSys) (N : Bool) (O O' Ob : List Nat) (f : SF) (φ : WS) : Prop := ∀ (p q L : Nat) (B : Nat → Prop) (h : AH) (c : Nat) (σ : Fr) (τ : TFr) (Q : QS), Good S p q B h c → p < L → q < L → L ≤ h.length → RF p B L O h σ τ → φ τ c Q →
  ∃ fl h' tfl c' B', f σ h = .ok fl h' ∧ Step S p q L B h B' h' c' ∧ FlR p L B' N O' Ob h' fl tfl ∧ Q tfl c'
section
variable {S : PenSys} {N : Bool} {O O' O1 O2 Ob : List Nat}
def wsNext : WS := fun τ c Q => Q (.next τ) c
def wsBrk : WS := fun τ c Q => Q (.brk τ) c
def wsCont : WS := fun τ c Q => Q (.cont τ) c
def wsBad : WS := fun _ _ _ => False
theorem js_next : JS S N O O Ob sNext wsNext := fun p q L B h c σ τ Q G pl ql hL r w => ⟨_, h, _, c, B, rfl, Step.of_ge Ge.refl G, .next r, w⟩
theorem js_bad : JS S N O O' Ob sBad wsBad := fun p q L B h c σ τ Q G pl ql hL r w => w.elim
def wsSeq (f g : WS) : WS := fun τ c Q => f τ c fun fl c1 => match fl with | .next τ1 => g τ1 c1 Q | fl => Q fl c1
theorem js_seq {f g : SF} {φ ψ : WS} (a : JS S N O O1 Ob f φ) (b : JS S N O1 O2 Ob g ψ) : JS S N O O2 Ob (sSeq f g) (wsSeq φ ψ) := fun p q L B h c σ τ Q G pl ql hL r w => by
  obtain ⟨fl, h1, tfl, c1, B1, e1, s1, r1, w1⟩ := a p q L B h c σ τ _ G pl ql hL r w
  cases r1 with
  | next r1 =>
    obtain ⟨fl, h2, tfl, c2, B2, e2, s2, r2, w2⟩ := b p q L B1 h1 c1 _ _ Q s1.good pl ql (Nat.le_trans hL s1.len) r1 w1
    exact ⟨fl, h2, tfl, c2, B2, by rw [sSeq_d, e1, bind_ok]; exact e2, s1.trans s2, r2, w2⟩
  | brk r1 => exact ⟨_, h1, _, c1, B1, by rw [sSeq_d, e1, bind_ok], s1, .brk r1, w1⟩
  | cont r1 => exact ⟨_, h1, _, c1, B1, by rw [sSeq_d, e1, bind_ok], s1, .cont r1, w1⟩
  | ret r1 => exact ⟨_, h1, _, c1, B1, by rw [sSeq_d, e1, bind_ok], s1, .ret r1, w1⟩
def wsIf (t : WT) (f g : WS) : WS := fun τ c Q => t τ c fun b c1 => if b = true then f τ c1 Q else g τ c1 Q
theorem js_if {t : TF} {f g : SF} {θ : WT} {φ ψ : WS} (k : JT S O t θ) (a : JS S N O O' Ob f φ) (b : JS S N O O' Ob g ψ) : JS S N O O' Ob (sIf t f g) (wsIf θ φ ψ) := fun p q L B h c σ τ Q G pl ql hL r w => by
  obtain ⟨x, h1, c1, e1, g1, G1, w1⟩ := k p q L B h c σ τ _ G pl r w
  have s1 : Step S p q L B h B h1 c1 := Step.of_ge g1 G1
  cases x with
  | true =>
    obtain ⟨fl, h2, tfl, c2, B2, e2, s2, r2, w2⟩ := a p q L B h1 c1 σ τ Q G1 pl ql (Nat.le_trans hL g1.len) (r.ge g1 G.bp pl) (by simpa using w1)
    exact ⟨fl, h2, tfl, c2, B2, by rw [sIf_d, e1, bind_ok, if_pos rfl, e2], s1.trans s2, r2, w2⟩
  | false =>
    obtain ⟨fl, h2, tfl, c2, B2, e2, s2, r2, w2⟩ := b p q L B h1 c1 σ τ Q G1 pl ql (Nat.le_trans hL g1.len) (r.ge g1 G.bp pl) (by simpa using w1)
    exact ⟨fl, h2, tfl, c2, B2, by rw [sIf_d, e1, bind_ok, if_neg Bool.false_ne_true, e2], s1.trans s2, r2, w2⟩
def wsExpr (f : WE) : WS := fun τ c Q => f τ c fun _ c1 => Q (.next τ) c1
def wsRet (f : WE) : WS := fun τ c Q => f τ c fun x c1 => Q (.ret x) c1
theorem js_ret {f : EF} {φ : WE} (a : JE S O f φ) : JS S false O O' Ob (sRet f) (wsRet φ) := fun p q L B h c σ τ Q G pl ql hL r w => by
  obtain ⟨x, h1, tx, c1, e1, g1, G1, r1, k1⟩ := a p q L B h c σ τ _ G pl r w
  exact ⟨_, h1, _, c1, B, by rw [sRet_d, e1, bind_ok], Step.of_ge g1 G1, .ret (.val r1), k1⟩
theorem RF.rel {p q L : Nat} {B : Nat → Prop} {h : AH} {c : Nat} {σ : Fr} {τ : TFr} (r : RF p B L O h σ τ) (G : Good S p q B h c) (pl : p < L) (ql : q < L) (ho : ∀ i ∈ O', i ∈ O) :
    ∃ B', RF p B' L O' h σ τ ∧ Good S p q B' h c ∧ (∀ m, B' m → B m) ∧ (∀ m, m < L → B m → B' m) := by
  refine ⟨fun m => B m ∧ ∀ i t, i ∈ O → i ∉ O' → τ[i]? = some (some t) → σ[i]? = some (some (.ref m)) → False, ⟨r.len, fun i t hi e => ?_, fun i t hi e => ?_, fun i j n t u hi hj => r.nd i j n t u (ho i hi) (ho j hj)⟩, ⟨G.pn, ⟨G.bp, ?_⟩, ⟨G.bq, ?_⟩, fun m b => G.al m b.1, G.cl⟩, fun m b => b.1, fun m l b => ⟨b, ?_⟩⟩
  · by_cases q' : i ∈ O
    · obtain ⟨n, h1, h2, h3, h4⟩ := r.ow i t q' e
      refine ⟨_, h1, ?_⟩
      have nb : ¬ (B n ∧ ∀ i t, i ∈ O → i ∉ O' → τ[i]? = some (some t) → σ[i]? = some (some (.ref n)) → False) := fun z => z.2 i t q' hi e h1
      cases h4 with
      | lst e' r' => exact .lst e' nb (r'.blk fun m b => .inl b.1)
      | dct e' r' => exact .dct e' nb (r'.blk fun m b => .inl b.1)
      | dtt e' r' => exact .dtt e' nb (r'.blk fun m b => .inl b.1)
    · obtain ⟨d, h1, h2⟩ := r.va i t q' e
      exact ⟨d, h1, h2.blk fun m b => .inl b.1⟩
  · obtain ⟨n, h1, h2, h3, h4⟩ := r.ow i t (ho i hi) e
    refine ⟨n, h1, ⟨h2, fun j u hj hj' e' e'' => ?_⟩, h3, ?_⟩
    · by_cases z : i = j
      · subst z; exact hj' hi
      · exact r.nd i j n t u (ho i hi) hj z e e' h1 e''
    · cases h4 with
      | lst e' r' => exact .lst e' (r'.blk fun m b => .inl b.1)
      | dct e' r' => exact .dct e' (r'.blk fun m b => .inl b.1)
      | dtt e' r' => exact .dtt e' (r'.blk fun m b => .inl b.1)
  · intro i t hi _ e e'
    obtain ⟨n, h1, h2, h3, h4⟩ := r.ow i t hi e
    rw [h1] at e'; cases e'; omega
  · intro i t hi _ e e'
    obtain ⟨n, h1, h2, h3, h4⟩ := r.ow i t hi e
    rw [h1] at e'; cases e'; omega
  · intro i t hi _ e e'
    obtain ⟨n, h1, h2, h3, h4⟩ := r.ow i t hi e
    rw [h1] at e'; cases e'; omega
theorem JS.pre {f : SF} {φ : WS} (a : JS S N O' O2 Ob f φ) (ho : ∀ i ∈ O', i ∈ O := by decide) : JS S N O O2 Ob f φ := fun p q L B h c σ τ Q G pl ql hL r w => by
  obtain ⟨B', R', G', k1, k2⟩ := r.rel G pl ql ho
  obtain ⟨fl, h2, tfl, c2, B2, e2, s2, r2, w2⟩ := a p q L B' h c σ τ Q G' pl ql hL R' w
  refine ⟨fl, h2, tfl, c2, B2, e2, ⟨s2.len, fun n l ne k => s2.at_ n l ne ?_, s2.good, fun m b => ?_, fun m l b => s2.old m l (k2 m l b)⟩, r2, w2⟩
  · rcases k with k | k
    · exact .inl fun z => k (k1 n z)
    · exact .inr k
  · rcases s2.new m b with b | b
    · exact .inl (k1 m b)
    · exact .inr b
theorem JS.post {f : SF} {φ : WS} (a : JS S N O O1 Ob f φ) (ho : ∀ i ∈ O2, i ∈ O1 := by decide) : JS S N O O2 Ob f φ := fun p q L B h c σ τ Q G pl ql hL r w => by
  obtain ⟨fl, h1, tfl, c1, B1, e1, s1, r1, w1⟩ := a p q L B h c σ τ _ G pl ql hL r w
  cases r1 with
  | next r1 =>
    obtain ⟨B', R', G', k1, k2⟩ := r1.rel s1.good pl ql ho
    exact ⟨_, h1, _, c1, B', e1, ⟨s1.len, s1.at_, G', fun m b => s1.new m (k1 m b), fun m l b => k2 m l (s1.old m l b)⟩, .next R', w1⟩
  | brk r1 => exact ⟨_, h1, _, c1, B1, e1, s1, .brk r1, w1⟩
  | cont r1 => exact ⟨_, h1, _, c1, B1, e1, s1, .cont r1, w1⟩
  | ret r1 => exact ⟨_, h1, _, c1, B1, e1, s1, .ret r1, w1⟩
def wsSet (i : Nat) (f : WE) : WS := fun τ c Q => f τ c fun x c1 => Q (.next (τ.set i (some x))) c1
theorem js_set (i : Nat) {f : EF} {φ : WE} (a : JE S O f φ) (hi : i ∉ O := by decide) : JS S N O O Ob (sSet i f) (wsSet i φ) := fun p q L B h c σ τ Q G pl ql hL r w => by
  obtain ⟨x, h1, tx, c1, e1, g1, G1, r1, k1⟩ := a p q L B h c σ τ _ G pl r w
  exact ⟨_, h1, _, c1, B, by rw [sSet_d, e1, bind_ok], Step.of_ge g1 G1, .next ((r.ge g1 G.bp pl).set i hi r1), k1⟩
theorem js_setN (i : Nat) {f : EF} {φ : WE} (a : JN S O f φ) (hO : ∀ j, j ∈ O' ↔ j = i ∨ j ∈ O) : JS S N O O' Ob (sSet i f) (wsSet i φ) := fun p q L B h c σ τ Q G pl ql hL r w => by
  obtain ⟨n, h1, tx, c1, e1, ln, g1, G1, o1, k1⟩ := a p q L B h c σ τ _ G pl r w
  have kb : ∀ m, (B m ∨ m = n) → B m ∨ h.length ≤ m := fun m b => by rcases b with b | b; exact .inl b; exact .inr (by omega)
  have R := (r.blk kb fun m b => .inl b).ge g1 (.inl G.bp) pl
  have on : ∀ j u, j ∈ O → τ[j]? = some (some u) → σ[j]? = some (some (.ref n)) → False := fun j u hj e e' => by
    obtain ⟨m, q1, q2, q3, q4⟩ := r.ow j u hj e
    rw [q1] at e'; cases e'
    have := q4.lt; omega
  refine ⟨_, h1, _, c1, fun m => B m ∨ m = n, by rw [sSet_d, e1, bind_ok], ⟨g1.len, fun n l ne _ => g1.at_ n l ne, G1.blk o1.lt, kb, fun m _ b => .inl b⟩, .next ⟨by simp [R.len], fun j u hj e => ?_, fun j u hj e => ?_, fun j k m t u hj hk ne e1 e2 e3 e4 => ?_⟩, k1⟩
  · have hj' : j ≠ i ∧ j ∉ O := ⟨fun z => hj ((hO j).mpr (.inl z)), fun z => hj ((hO j).mpr (.inr z))⟩
    rw [List.getElem?_set_ne (Ne.symm hj'.1)] at e ⊢
    exact R.va j u hj'.2 e
  · by_cases z : i = j
    · subst z
      have hl : i < τ.length := by
        have := (List.getElem?_eq_some_iff.mp e).1
        simpa using this
      rw [List.getElem?_set_self hl] at e
      cases e
      exact ⟨n, List.getElem?_set_self (by rw [r.len]; exact hl), .inr rfl, by omega, o1⟩
    · rw [List.getElem?_set_ne z] at e ⊢
      rcases (hO j).mp hj with hj | hj
      · exact (z hj.symm).elim
      · exact R.ow j u hj e
  · by_cases z : i = j
    · subst z
      rw [List.getElem?_set_ne ne] at e2 e4
      have hl : i < σ.length := by
        have := (List.getElem?_eq_some_iff.mp e3).1
        simpa using this
      rw [List.getElem?_set_self hl] at e3
      cases e3
      rcases (hO k).mp hk with hk | hk
      · exact ne hk.symm
      · exact on k u hk e2 e4
    · rw [List.getElem?_set_ne z] at e1 e3
      by_cases z' : i = k
      · subst z'
        have hl : i < σ.length := by
          have := (List.getElem?_eq_some_iff.mp e4).1
          simpa using this
        rw [List.getElem?_set_self hl] at e4
        cases e4
        rcases (hO j).mp hj with hj | hj
        · exact z hj.symm
        · exact on j t hj e1 e3
      · rw [List.getElem?_set_ne z'] at e2 e4
        rcases (hO j).mp hj with hj | hj
        · exact (z hj.symm).elim
        · rcases (hO k).mp hk with hk | hk
          · exact (z' hk.symm).elim
          · exact r.nd j k m t u hj hk ne e1 e2 e3 e4
def wsPar (i j : Nat) (f g : WE) : WS := fun τ c Q => f τ c fun x c1 => g τ c1 fun y c2 => Q (.next ((τ.set i (some x)).set j (some y))) c2
theorem js_par (i j : Nat) {f g : EF} {φ ψ : WE} (a : JE S O f φ) (b : JE S O g ψ) (hi : i ∉ O := by decide) (hj : j ∉ O := by decide) : JS S N O O Ob (sPar i j (aCons f (aCons g aNil))) (wsPar i j φ ψ) := fun p q L B h c σ τ Q G pl ql hL r w => by
  obtain ⟨x, h1, tx, c1, e1, g1, G1, r1, k1⟩ := a p q L B h c σ τ _ G pl r w
  obtain ⟨y, h2, ty, c2, e2, g2, G2, r2, k2⟩ := b p q L B h1 c1 σ τ _ G1 pl (r.ge g1 G.bp pl) k1
  exact ⟨_, h2, _, c2, B, by rw [sPar_d, aCons_d, e1, bind_ok, aCons_d, e2, bind_ok, aNil_d, bind_ok, bind_ok, bind_ok], Step.of_ge (g1.trans g2) G2, .next (((r.ge (g1.trans g2) G.bp pl).set i hi (r1.ge g2 G.bp)).set j hj r2), k2⟩
def wsAsg (f : WE) (g : WG) : WS := fun τ c Q => f τ c fun x c1 => g x τ fun τ1 => Q (.next τ1) c1
theorem js_asg {f : EF} {g : GF} {φ : WE} {γ : WG} (a : JE S O f φ) (b : JG O g γ) : JS S N O O Ob (sAsg f g) (wsAsg φ γ) := fun p q L B h c σ τ Q G pl ql hL r w => by
  obtain ⟨x, h1, tx, c1, e1, g1, G1, r1, k1⟩ := a p q L B h c σ τ _ G pl r w
  obtain ⟨σ2, τ2, e2, R2, k2⟩ := b p L B h1 _ _ σ τ _ r1 (r.ge g1 G.bp pl) k1
  exact ⟨_, h1, _, c1, B, by rw [sAsg_d, e1, bind_ok, e2, bind_ok], Step.of_ge g1 G1, .next R2, k2⟩
theorem RF.mut {p q L : Nat} {B : Nat → Prop} {h : AH} {c n i : Nat} {σ : Fr} {τ : TFr} {o : AO} {t : T} (r : RF p B L O h σ τ) (G : Good S p q B h c) (pl : p < L) (ql : q < L) (hi : i ∈ O) (ei : ∃ u, τ[i]? = some (some u)) (en : σ[i]? = some (some (.ref n)))
    (ho : belowO h.length o = true) (on : ∀ h', h'.length = h.length → (∀ m, m < h.length → ¬ B m → h'[m]? = h[m]?) → h'[n]? = some o → Own p B h' n t) : Step S p q L B h B (h.set n o) c ∧ RF p B L O (h.set n o) σ (τ.set i (some t)) := by
  obtain ⟨u, ei⟩ := ei
  obtain ⟨n', e1, b1, l1, o1⟩ := r.ow i u hi ei
  rw [en] at e1
  cases e1
  have hn := o1.lt
  have k : ∀ m, m < h.length → ¬ B m → (h.set n o)[m]? = h[m]? := fun m l b => List.getElem?_set_ne fun z => b (by rw [← z]; exact b1)
  refine ⟨⟨by simp, fun m l ne k => ?_, ⟨S.keep G.pn (List.getElem?_set_ne (by omega)) (List.getElem?_set_ne (by omega)), G.bp, G.bq, fun m b => by rw [List.length_set]; exact G.al m b, G.cl.set ho⟩, fun m b => .inl b, fun m _ b => b⟩, ⟨by simp [r.len], fun j v hj e => ?_, fun j v hj e => ?_, fun j k m t' v hj hk ne e1 e2 e3 e4 => ?_⟩⟩
  · refine List.getElem?_set_ne fun z => ?_
    subst z
    rcases k with k | k
    · exact k b1
    · omega
  · have z : i ≠ j := fun z => hj (z ▸ hi)
    rw [List.getElem?_set_ne z] at e
    obtain ⟨d, q1, q2⟩ := r.va j v hj e
    exact ⟨d, q1, q2.up k (by simp)⟩
  · by_cases z : i = j
    · subst z
      have hl : i < τ.length := by
        have := (List.getElem?_eq_some_iff.mp e).1
        simpa using this
      rw [List.getElem?_set_self hl] at e
      cases e
      exact ⟨n, en, b1, l1, on _ (by simp) k (List.getElem?_set_self hn)⟩
    · rw [List.getElem?_set_ne z] at e
      obtain ⟨m, q1, q2, q3, q4⟩ := r.ow j v hj e
      have ne : n ≠ m := fun y => by subst y; exact r.nd i j n u v hi hj z ei e en q1
      refine ⟨m, q1, q2, q3, ?_⟩
      cases q4 with
      | lst e' r' => exact .lst (by rw [List.getElem?_set_ne ne]; exact e') (r'.up k (by simp))
      | dct e' r' => exact .dct (by rw [List.getElem?_set_ne ne]; exact e') (r'.up k (by simp))
      | dtt e' r' => exact .dtt (by rw [List.getElem?_set_ne ne]; exact e') (r'.up k (by simp))
  · have u1 : ∃ t', τ[j]? = some (some t') := by
      by_cases z : i = j
      · subst z; exact ⟨u, ei⟩
      · rw [List.getElem?_set_ne z] at e1; exact ⟨_, e1⟩
    have u2 : ∃ t', τ[k]? = some (some t') := by
      by_cases z : i = k
      · subst z; exact ⟨u, ei⟩
      · rw [List.getElem?_set_ne z] at e2; exact ⟨_, e2⟩
    obtain ⟨a1, u1⟩ := u1
    obtain ⟨a2, u2⟩ := u2
    exact r.nd j k m a1 a2 hj hk ne u1 u2 e3 e4
def wsAppend (i : Nat) (f : WE) : WS := fun τ c Q => f τ c fun x c1 => match τ[i]? with | some (some (.lst xs)) => xs.length < sizeLine ∧ Q (.next (τ.set i (some (.lst (xs ++ [x]))))) c1 | _ => False
theorem js_append (i : Nat) {f : EF} {φ : WE} (a : JE S O f φ) (hi : i ∈ O := by decide) : JS S N O O Ob (sExpr (eMt mAppend (eVar i) (aCons f aNil))) (wsAppend i φ) := fun p q L B h c σ τ Q G pl ql hL r w => by
  obtain ⟨x, h1, tx, c1, e1, g1, G1, r1, k1⟩ := a p q L B h c σ τ _ G pl r w
  split at k1
  · rename_i ts ei
    have R := r.ge g1 G.bp pl
    obtain ⟨n, en, b1, l1, o1⟩ := r.ow i _ hi ei
    have o1' := o1.ge g1 G.bp (by omega)
    cases o1 with
    | lst e0 r0 =>
    cases o1' with
    | lst e2 r2 =>
      rename_i xs0 xs
      obtain ⟨s, R2⟩ := R.mut (o := .lst (xs ++ [x])) (t := .lst (ts ++ [tx])) G1 pl ql hi ⟨_, ei⟩ en (r2.app (.cons r1 .nil)).isBelow (fun h' hl hk e => .lst e ((r2.app (.cons r1 .nil)).up hk (by omega)))
      refine ⟨_, _, _, c1, B, ?_, (Step.of_ge g1 G1).trans s, .next R2, k1.2⟩
      rw [sExpr_d, eMt_d, eVar_k en, bind_ok, if_pos (by simp only [isLst, e0]), aCons_d, e1, bind_ok, aNil_d, bind_ok, bind_ok]
      simp only [mAppend, e2]
      rw [if_pos (by rw [r2.length]; exact k1.1)]
      rfl
  · exact k1.elim
def wsReverse (i : Nat) : WS := fun τ c Q => match τ[i]? with | some (some (.lst xs)) => Q (.next (τ.set i (some (.lst xs.reverse)))) c | _ => False
open Classical in
noncomputable def tput (kvs : List (T × T)) (k v : T) : List (T × T) := if (kvs.any fun kv => decide (kv.1 = k)) = true then kvs.map (fun kv => if kv.1 = k then (kv.1, v) else kv) else kvs ++ [(k, v)]
open Classical in
theorem Rdk.anyk {p : Nat} {B : Nat → Prop} {h : AH} {k : Key} : ∀ {xs : List (Key × D)} {ts : List (T × T)}, Rdk p B h xs ts → (xs.any fun kv => decide (kv.1 = k)) = (ts.any fun kv => decide (kv.1 = kT k))
  | _, _, .nil => rfl
  | _, _, .cons (k := k') a b => by
    simp only [List.any_cons, Rdk.anyk b]
    congr 1
    by_cases z : k' = k
    · subst z; simp
    · have z' : ¬ kT k' = kT k := fun y => z (kT_inj y)
      rw [decide_eq_false z, decide_eq_false z']
open Classical in
theorem Rdk.mapk {p : Nat} {B : Nat → Prop} {h : AH} {k : Key} {x : D} {t : T} (r : Rd p B h x t) : ∀ {xs : List (Key × D)} {ts : List (T × T)}, Rdk p B h xs ts → Rdk p B h (xs.map fun kv => if kv.1 = k then (kv.1, x) else kv) (ts.map fun kv => if kv.1 = kT k then (kv.1, t) else kv)
  | _, _, .nil => .nil
  | _, _, .cons (k := k') a b => by
    simp only [List.map_cons]
    by_cases z : k' = k
    · subst z; rw [if_pos rfl, if_pos rfl]; exact .cons r (Rdk.mapk r b)
    · rw [if_neg z, if_neg fun y => z (kT_inj y)]; exact .cons a (Rdk.mapk r b)
theorem Rdk.app {p : Nat} {B : Nat → Prop} {h : AH} : ∀ {xs : List (Key × D)} {ts : List (T × T)} {xs' : List (Key × D)} {ts' : List (T × T)}, Rdk p B h xs ts → Rdk p B h xs' ts' → Rdk p B h (xs ++ xs') (ts ++ ts')
  | _, _, _, _, .nil, s => s
  | _, _, _, _, .cons a b, s => .cons a (Rdk.app b s)
theorem Rdk.put {p : Nat} {B : Nat → Prop} {h : AH} {k : Key} {x : D} {t : T} (r : Rd p B h x t) {xs : List (Key × D)} {ts : List (T × T)} (rk : Rdk p B h xs ts) : Rdk p B h (dput xs k x) (tput ts (kT k) t) := by
  unfold dput tput
  rw [rk.anyk (k := k)]
  split
  · exact rk.mapk r
  · exact rk.app (.cons r .nil)
def wfor (γ : WG) (β : WS) : List T → TFr → Nat → QS → Prop
  | [], τ, c, Q => Q (.next τ) c
  | x :: xs, τ, c, Q => γ x τ fun τ1 => β τ1 c fun fl c1 => match fl with
    | .next τ2 => wfor γ β xs τ2 c1 Q
    | .cont τ2 => wfor γ β xs τ2 c1 Q
    | .brk τ2 => Q (.next τ2) c1
    | .ret t => Q (.ret t) c1
def wsFor (f : WI) (γ : WG) (β : WS) : WS := fun τ c Q => f τ c fun ts c1 => wfor γ β ts τ c1 Q
theorem Rds.step {p q L : Nat} {B B' : Nat → Prop} {h h' : AH} {c : Nat} (st : Step S p q L B h B' h' c) (bp : B p) {d : List D} {t : List T} (r : Rds p B h d t) : Rds p B' h' d t := by
  have r1 : Rds p (fun m => B' m ∨ B m) h d t := r.blk fun n b => by
    rcases b with b | b
    · exact st.new n b
    · exact .inl b
  have r2 : Rds p (fun m => B' m ∨ B m) h' d t := r1.up (fun n l b => st.at_ n l (fun z => b (.inr (by rw [z]; exact bp))) (.inl fun z => b (.inr z))) st.len
  exact r2.blk fun n b => .inl (.inl b)
theorem forD_cons {s : Src} {g : GF} {b : SF} {x : D} {xs : List D} {σ σ1 : Fr} {h h1 h2 : AH} {fl : Fl} (ck : s.chk h) (e1 : g x σ h = .ok σ1 h1) (e2 : b σ1 h1 = .ok fl h2) : forD s g b (x :: xs) σ h = (match (generalizing := false) fl with
      | .next σ2 => forD s g b xs σ2 h2
      | .cont σ2 => forD s g b xs σ2 h2
      | .brk σ2 => .ok (.next σ2) h2
      | .ret v => .ok (.ret v) h2) := by
  conv => lhs; unfold forD
  rw [if_pos ck, e1, bind_ok, e2, bind_ok]
  all_goals (cases fl <;> rfl)
theorem whileD_t {t : TF} {b : SF} {n : Nat} {σ : Fr} {h h1 h2 : AH} {fl : Fl} (e1 : t σ h = .ok true h1) (e2 : b σ h1 = .ok fl h2) : whileD t b (n + 1) σ h = (match (generalizing := false) fl with
      | .next σ2 => whileD t b n σ2 h2
      | .cont σ2 => whileD t b n σ2 h2
      | .brk σ2 => .ok (.next σ2) h2
      | .ret v => .ok (.ret v) h2) := by
  conv => lhs; unfold whileD
  rw [e1, bind_ok, if_pos rfl, e2, bind_ok]
  all_goals (cases fl <;> rfl)
theorem for_core {g : GF} {b : SF} {γ : WG} {β : WS} (jg : JG O g γ) (jb : JS S N O O O b β) {p q L : Nat} {B0 : Nat → Prop} {s : Src} {h0 : AH} (pl : p < L) (ql : q < L) (hL0 : L ≤ h0.length)
    (hc : ∀ k, (∀ n, n < h0.length → ¬ B0 n → k[n]? = h0[n]?) → s.chk k) (bp : B0 p) {Q : QS} :
    ∀ (xs : List D) (ts : List T) (B : Nat → Prop) (h : AH) (c : Nat) (σ : Fr) (τ : TFr), Step S p q L B0 h0 B h c → RF p B L O h σ τ → Rds p B0 h0 xs ts → wfor γ β ts τ c Q →
      ∃ fl h' tfl c' B', forD s g b xs σ h = .ok fl h' ∧ Step S p q L B0 h0 B' h' c' ∧ FlR p L B' N O Ob h' fl tfl ∧ Q tfl c'
  | [], _, B, h, c, σ, τ, st, r, .nil, w => by
    refine ⟨_, h, _, c, B, ?_, st, .next r, w⟩
    unfold forD
    exact if_pos (hc h fun n l b => st.at_ n l (fun z => b (by rw [z]; exact bp)) (.inl b))
  | x :: xs, t :: ts, B, h, c, σ, τ, st, r, .cons rx rxs, w => by
    have ck : s.chk h := hc h fun n l b => st.at_ n l (fun z => b (by rw [z]; exact bp)) (.inl b)
    have rx' : Rd p B h x t := by
      have := Rds.step st bp (.cons rx .nil)
      cases this with | cons a _ => exact a
    obtain ⟨σ1, τ1, e1, R1, w1⟩ := jg p L B h x t σ τ _ rx' r w
    obtain ⟨fl, h1, tfl, c1, B1, e2, s1, r1, w2⟩ := jb p q L B h c σ1 τ1 _ st.good pl ql (Nat.le_trans hL0 st.len) R1 w1
    have st1 := st.trans s1
    cases r1 with
    | next r1 =>
      obtain ⟨fl, h', tfl, c', B', e3, st', r', w'⟩ := for_core jg jb pl ql hL0 hc bp xs ts B1 h1 c1 _ _ st1 r1 rxs w2
      exact ⟨fl, h', tfl, c', B', (forD_cons ck e1 e2).trans e3, st', r', w'⟩
    | cont r1 =>
      obtain ⟨fl, h', tfl, c', B', e3, st', r', w'⟩ := for_core jg jb pl ql hL0 hc bp xs ts B1 h1 c1 _ _ st1 r1 rxs w2
      exact ⟨fl, h', tfl, c', B', (forD_cons ck e1 e2).trans e3, st', r', w'⟩
    | brk r1 => exact ⟨_, h1, _, c1, B1, forD_cons ck e1 e2, st1, .next r1, w2⟩
    | ret r1 => exact ⟨_, h1, _, c1, B1, forD_cons ck e1 e2, st1, .ret r1, w2⟩
theorem js_for {f : IF} {g : GF} {b : SF} {ι : WI} {γ : WG} {β : WS} (ji : JIS S O f ι) (jg : JG O g γ) (jb : JS S N O O O b β) : JS S N O O Ob (sFor f g b) (wsFor ι γ β) := fun p q L B h c σ τ Q G pl ql hL r w => by
  obtain ⟨s, h1, ts, c1, e1, g1, G1, r1, hc, w1⟩ := ji p q L B h c σ τ _ G pl r w
  obtain ⟨fl, h', tfl, c', B', e3, st', r', w'⟩ := for_core (Ob := Ob) jg jb pl ql (Nat.le_trans hL g1.len) hc G.bp s.items ts B h1 c1 σ τ (Step.of_ge Ge.refl G1) (r.ge g1 G.bp pl) r1 w1
  exact ⟨fl, h', tfl, c', B', by unfold sFor; rw [e1, bind_ok, e3], (Step.of_ge g1 G1).trans st', r', w'⟩
def wwhile (θ : WT) (β : WS) : Nat → TFr → Nat → QS → Prop
  | 0, _, _, _ => False
  | n + 1, τ, c, Q => θ τ c fun b c1 => if b = true then β τ c1 fun fl c2 => (match fl with
    | .next τ2 => wwhile θ β n τ2 c2 Q
    | .cont τ2 => wwhile θ β n τ2 c2 Q
    | .brk τ2 => Q (.next τ2) c2
    | .ret t => Q (.ret t) c2) else Q (.next τ) c1
theorem while_core {t : TF} {b : SF} {θ : WT} {β : WS} (jt : JT S O t θ) (jb : JS S N O O O b β) {p q L : Nat} (pl : p < L) (ql : q < L) {Q : QS} :
    ∀ (n : Nat) (B : Nat → Prop) (h : AH) (c : Nat) (σ : Fr) (τ : TFr), Good S p q B h c → L ≤ h.length → RF p B L O h σ τ → wwhile θ β n τ c Q →
      ∃ fl h' tfl c' B', whileD t b n σ h = .ok fl h' ∧ Step S p q L B h B' h' c' ∧ FlR p L B' N O Ob h' fl tfl ∧ Q tfl c'
  | 0, B, h, c, σ, τ, G, hL, r, w => w.elim
  | n + 1, B, h, c, σ, τ, G, hL, r, w => by
    obtain ⟨x, h1, c1, e1, g1, G1, w1⟩ := jt p q L B h c σ τ _ G pl r w
    have R1 := r.ge g1 G.bp pl
    have s1 : Step S p q L B h B h1 c1 := Step.of_ge g1 G1
    cases x with
    | false => exact ⟨_, h1, _, c1, B, by unfold whileD; rw [e1, bind_ok, if_neg Bool.false_ne_true], s1, .next R1, by simpa using w1⟩
    | true =>
      rw [if_pos rfl] at w1
      obtain ⟨fl, h2, tfl, c2, B2, e2, s2, r2, w2⟩ := jb p q L B h1 c1 σ τ _ G1 pl ql (Nat.le_trans hL g1.len) R1 w1
      have st := s1.trans s2
      cases r2 with
      | next r1 =>
        obtain ⟨fl, h', tfl, c', B', e3, st', r', w'⟩ := while_core jt jb pl ql n B2 h2 c2 _ _ s2.good (Nat.le_trans hL st.len) r1 w2
        exact ⟨fl, h', tfl, c', B', (whileD_t e1 e2).trans e3, st.trans st', r', w'⟩
      | cont r1 =>
        obtain ⟨fl, h', tfl, c', B', e3, st', r', w'⟩ := while_core jt jb pl ql n B2 h2 c2 _ _ s2.good (Nat.le_trans hL st.len) r1 w2
        exact ⟨fl, h', tfl, c', B', (whileD_t e1 e2).trans e3, st.trans st', r', w'⟩
      | brk r1 => exact ⟨_, h2, _, c2, B2, whileD_t e1 e2, st, .next r1, w2⟩
      | ret r1 => exact ⟨_, h2, _, c2, B2, whileD_t e1 e2, st, .ret r1, w2⟩
def wsWhile (m : TFr → Nat) (θ : WT) (β : WS) : WS := fun τ c Q => wwhile θ β (m τ) τ c Q
def mIntT (i : Nat) : TFr → Nat := fun τ => match τ[i]? with | some (some (.int z)) => z.natAbs + 1 | _ => 0
theorem js_while (i : Nat) {t : TF} {b : SF} {θ : WT} {β : WS} (jt : JT S O t θ) (jb : JS S N O O O b β) (hi : i ∉ O := by decide) : JS S N O O Ob (sWhile (mInt i) t b) (wsWhile (mIntT i) θ β) := fun p q L B h c σ τ Q G pl ql hL r w => by
  unfold wsWhile mIntT at w
  split at w
  · rename_i z e
    obtain ⟨d, h1, h2⟩ := r.va i _ hi e
    cases h2
    have : mInt i σ = z.natAbs + 1 := by unfold mInt; rw [h1]
    unfold sWhile
    rw [this]
    exact while_core jt jb pl ql _ B h c σ τ G hL r w
  · exact w.elim
def startT (n : Nat) (ts : List T) : TFr := ts.map some ++ List.replicate (n - ts.length) none
def wFn (np n : Nat) (β : WS) : WF := fun ts c Q => ts.length = np ∧ β (startT n ts) c fun fl c1 => match fl with
  | .ret t => Q t c1
  | .next _ => Q .non c1
  | _ => False
theorem RF.start {p : Nat} {B : Nat → Prop} {L : Nat} {h : AH} {n : Nat} {ds : List D} {ts : List T} (r : Rds p B h ds ts) : RF p B L [] h (startD n ds) (startT n ts) := by
  refine ⟨by simp [startD, startT, r.length], fun i t _ e => ?_, fun i t hi => (List.not_mem_nil hi).elim, fun i j m t u hi => (List.not_mem_nil hi).elim⟩
  unfold startT at e
  by_cases z : i < ts.length
  · rw [List.getElem?_append_left (by simpa using z), List.getElem?_map] at e
    cases q : ts[i]? with
    | none => rw [q] at e; cases e
    | some t' =>
      rw [q] at e; cases e
      obtain ⟨d, h1, h2⟩ := r.get q
      refine ⟨d, ?_, h2⟩
      unfold startD
      rw [List.getElem?_append_left (by simp [r.length]; exact z), List.getElem?_map, h1]; rfl
  · rw [List.getElem?_append_right (by simpa using z), List.getElem?_replicate] at e
    split at e <;> cases e
theorem cut_good {p q : Nat} {B : Nat → Prop} {h h' : AH} {c : Nat} {v : D} {t : T} (cl : Closed h) (al : ∀ n, B n → n < h.length) (g : Ge p h h') (G : Good S p q B h' c) (r : Rd p B h' v t) : Ge p h (cut h h' v) ∧ Good S p q B (cut h h' v) c ∧ Rd p B (cut h h' v) v t := by
  unfold cut
  split
  · rename_i k
    have hl : (h'.take h.length).length = h.length := by rw [List.length_take]; have := g.len; omega
    obtain ⟨l1, l2, _⟩ := S.loc G.pn
    refine ⟨⟨by omega, fun n l ne => by rw [List.getElem?_take_of_lt l, g.at_ n l ne]⟩, ⟨S.keep G.pn (List.getElem?_take_of_lt (al p G.bp)) (List.getElem?_take_of_lt (al q G.bq)), G.bp, G.bq, fun n b => by rw [hl]; exact al n b, fun n o e => ?_⟩, r.cut cl (g.k G.bp) g.len k.1⟩
    rw [hl]
    have hn : n < h.length := by rw [← hl]; exact (List.getElem?_eq_some_iff.mp e).1
    rw [List.getElem?_take_of_lt hn] at e
    rcases k.2 n hn with z | ⟨o', z1, z2⟩
    · rw [e] at z; exact cl n o z.symm
    · rw [e] at z1; cases z1; exact z2
  · exact ⟨g, G, r⟩
theorem jf_of {np n : Nat} {b : SF} {β : WS} (jb : JS S false [] O' [] b β) : JF S (mkFn np n b) (wFn np n β) := fun p q B h c ds ts Q G r w => by
  obtain ⟨hn, w⟩ := w
  obtain ⟨pl, ql, _⟩ := S.loc G.pn
  obtain ⟨fl, h', tfl, c', B', e, st, rf, k⟩ := jb p q h.length B h c _ _ _ G pl ql (Nat.le_refl _) (RF.start r) w
  have ge : Ge p h h' := ⟨st.len, fun m l ne => st.at_ m l ne (.inr l)⟩
  have bb : ∀ m, B m → B' m := fun m b => st.old m (G.al m b) b
  have G' : Good S p q B h' c' := st.good.unblk bb G.bp G.bq
  cases rf with
  | next rf =>
    obtain ⟨a1, a2, a3⟩ := cut_good (v := .non) (t := .non) G.cl G.al ge G' .non
    exact ⟨.non, _, .non, c', by unfold mkFn; rw [if_pos (by rw [r.length]; exact hn), e], a1, a2, a3, k⟩
  | brk rf => exact k.elim
  | cont rf => exact k.elim
  | ret rf =>
    rename_i v t
    have rd : Rd p B h' v t := by
      cases rf with
      | val r => exact r.blk fun m b => .inl (bb m b)
      | own l o => exact (by
          cases o with
          | lst e r => exact .lst e (fun z => by have := G.al _ z; omega) (r.blk fun m b => .inl (.inl (bb m b)))
          | dct e r => exact .dct e (fun z => by have := G.al _ z; omega) (r.blk fun m b => .inl (.inl (bb m b)))
          | dtt e r => exact .dtt e (fun z => by have := G.al _ z; omega) (r.blk fun m b => .inl (.inl (bb m b))))
    obtain ⟨a1, a2, a3⟩ := cut_good G.cl G.al ge G' rd
    exact ⟨v, _, t, c', by unfold mkFn; rw [if_pos (by rw [r.length]; exact hn), e], a1, a2, a3, k⟩
def wFnN (np n : Nat) (β : WS) : WF := fun ts c Q => ts.length = np ∧ β (startT n ts) c fun fl c1 => match fl with
  | .ret t => Q t c1
  | _ => False
def wDraw : WF := fun ts c Q => match ts with
  | [.pen, .int n] => (0 < n ∧ n < 10000000000000 ∧ c < 900000) ∧ ∀ r : Int, 0 ≤ r → r < n → Q (.int r) (c + 1)
  | _ => False
end
end EV
set_option Elab.async false
set_option linter.all false
set_option autoImplicit false
set_option maxRecDepth 100000
namespace EV
open PySem PySem.Spec L2
section
variable {S : PenSys} {N : Bool} {O O' Ob : List Nat}
def wB2 (v : V2) (f g : WE) : WE := fun τ c Q => f τ c fun x c1 => g τ c1 fun y c2 => v x y fun z => Q z c2
def vMax2 : V2 := vI (fun _ _ => True) fun i j => .int (if j > i then j else i)
def vMin2 : V2 := vI (fun _ _ => True) fun i j => .int (if j < i then j else i)
def T.tru : T → Option Bool
  | .non => some false
  | .bl b => some b
  | .int i => some (i != 0)
  | .tup xs => some (!xs.isEmpty)
  | .lst xs => some (!xs.isEmpty)
  | _ => none
def wTru (f : WE) : WT := fun τ c Q => f τ c fun x c1 => match x.tru with | some b => Q b c1 | none => False
def wsExtend (i : Nat) (f : WE) : WS := fun τ c Q => f τ c fun x c1 => match τ[i]?, x with | some (some (.lst xs)), .lst ys => xs.length + ys.length ≤ sizeLine ∧ Q (.next (τ.set i (some (.lst (xs ++ ys))))) c1 | _, _ => False
end
end EV
set_option Elab.async false
set_option linter.all false
set_option autoImplicit false
set_option maxRecDepth 100000
namespace EV
open PySem PySem.Spec L2
section
variable {S : PenSys} {N : Bool} {O O' Ob : List Nat}
def wRevA (f : WE) : WE := fun τ c Q => f τ c fun x c1 => match x with | .tup xs => Q (.tup xs.reverse) c1 | .lst xs => Q (.lst xs.reverse) c1 | _ => False
theorem wRevA_d {f : WE} {τ : TFr} {c : Nat} {Q : QT} : wRevA f τ c Q = (f τ c fun x c1 => match x with | .tup xs => Q (.tup xs.reverse) c1 | .lst xs => Q (.lst xs.reverse) c1 | _ => False) := id rfl
def wsPar3 (i j l : Nat) (f g k : WE) : WS := fun τ c Q => f τ c fun x c1 => g τ c1 fun y c2 => k τ c2 fun z c3 => Q (.next (((τ.set i (some x)).set j (some y)).set l (some z))) c3
theorem wsPar3_d {i j l : Nat} {f g k : WE} {τ : TFr} {c : Nat} {R : QS} : wsPar3 i j l f g k τ c R = (f τ c fun x c1 => g τ c1 fun y c2 => k τ c2 fun z c3 => R (.next (((τ.set i (some x)).set j (some y)).set l (some z))) c3) := id rfl
end
end EV
set_option Elab.async false
set_option linter.all false
set_option autoImplicit false
set_option maxRecDepth 100000
namespace EV
open PySem PySem.Spec L2
section
variable {S : PenSys} {N : Bool} {O O' Ob : List Nat}
def T.flt : T → Bool
  | .non => true
  | .bl _ => true
  | .int _ => true
  | .str _ => true
  | _ => false
def T.eqf : T → T → Bool
  | .non, .non => true
  | .bl a, .bl b => a == b
  | .bl a, .int b => (if a then 1 else 0) == b
  | .int a, .bl b => a == (if b then 1 else 0)
  | .int a, .int b => a == b
  | .str a, .str b => a == b
  | _, _ => false
theorem RdX.flt {p : Nat} {B : Nat → Prop} {h : AH} {d : D} {t : T} (r : RdX p B h d t) (e : t.flt = true) : flatD d = true ∧ ∀ {d' t'}, RdX p B h d' t' → t'.flt = true → eqF d' d = t'.eqf t := by
  have key : ∀ {d t}, RdX p B h d t → t.flt = true → (d = .non ∧ t = .non) ∨ (∃ b, d = .bl b ∧ t = .bl b) ∨ (∃ i, d = .int i ∧ t = .int i) ∨ ∃ s, d = .str s ∧ t = .str s := by
    intro d t r e
    cases t with
    | non => exact .inl ⟨r.non, rfl⟩
    | bl b => exact .inr (.inl ⟨b, r.bl, rfl⟩)
    | int i => exact .inr (.inr (.inl ⟨i, r.int, rfl⟩))
    | str s => exact .inr (.inr (.inr ⟨s, r.str, rfl⟩))
    | _ => cases e
  have k := key r e
  refine ⟨?_, fun r' e' => ?_⟩
  · rcases k with ⟨rfl, _⟩ | ⟨_, rfl, _⟩ | ⟨_, rfl, _⟩ | ⟨_, rfl, _⟩ <;> rfl
  · rcases k with ⟨rfl, rfl⟩ | ⟨_, rfl, rfl⟩ | ⟨_, rfl, rfl⟩ | ⟨_, rfl, rfl⟩ <;>
      rcases key r' e' with ⟨rfl, rfl⟩ | ⟨_, rfl, rfl⟩ | ⟨_, rfl, rfl⟩ | ⟨_, rfl, rfl⟩ <;> rfl
end
end EV
set_option Elab.async false
set_option linter.all false
set_option autoImplicit false
set_option maxRecDepth 100000
namespace EV
open PySem PySem.W PyProof.Rows
section
variable (r : Nat → Int)
def ev {α : Type} : KasT α → α
  | .ret a => a
  | .ask i j k => ev (k (decide (r i < r j)))
def Rk (p : Array Nat) (i : Nat) : Int := r (p.getD i 0)
def Up (p : Array Nat) (n : Nat) : Prop := ∀ i j, i ≤ j → j < n → Rk r p i ≤ Rk r p j
def Dn (p : Array Nat) (n : Nat) : Prop := ∀ i j, i ≤ j → j < n → Rk r p j ≤ Rk r p i
theorem Dn.congr {p p' : Array Nat} {n : Nat} (h : Dn r p n) (e : ∀ k, Rk r p' k = Rk r p k) : Dn r p' n := fun i j a b => by rw [e, e]; exact h i j a b
theorem Up.congr {p p' : Array Nat} {n : Nat} (h : Up r p n) (e : ∀ k, k < n → Rk r p' k = Rk r p k) : Up r p' n := fun i j a b => by rw [e i (by omega), e j b]; exact h i j a b
structure DnAt (p0 p : Array Nat) (n q : Nat) : Prop where
  perm : p.Perm p0
  one : 1 ≤ n
  hq : q + 1 ≤ n
  dn : Dn r p n
  flat : ∀ k, n - (q + 1) ≤ k → k < n → Rk r p k = Rk r p (n - 1)
theorem DnAt.more {p : Array Nat} {n : Nat} (h : Dn r p n) (h1 : 1 ≤ n) (l : Rk r p n ≤ Rk r p (n - 1)) : Dn r p (n + 1) := fun i j ij jn => by
  by_cases e : j = n
  · subst e
    by_cases e2 : i = j
    · subst e2; exact Int.le_refl _
    · exact Int.le_trans l (h i (j - 1) (by omega) (by omega))
  · exact h i j ij (by omega)
structure RunAt (p0 p : Array Nat) (m : Nat) : Prop where
  perm : p.Perm p0
  one : 1 ≤ m
  up : Up r p m
end
end EV
set_option Elab.async false
set_option linter.all false
set_option autoImplicit false
set_option maxRecDepth 100000
namespace EV
open PySem PyProof.Rows
def LtU (U : Nat) (s : Shared) (y x : Value) (b : Bool) : Prop := ∀ (A : Around), A.units ≤ U → ∀ (prog : Program) (w : World) (E : Value → Shared → Prop) (Q : Value → Shared → Prop), Q (.bool b) s → wpAny (model prog w) A (richCompare .Lt y x) Q E s
def EqU (U : Nat) (s : Shared) (y x : Value) (b : Bool) : Prop := ∀ (A : Around), A.units ≤ U → SeqAt.EqAt A s y x b
inductive LexU (U : Nat) (s : Shared) : List Value → List Value → Bool → Prop
  | nn : LexU U s [] [] false
  | nc {x : Value} {xs : List Value} : LexU U s [] (x :: xs) true
  | cn {x : Value} {xs : List Value} : LexU U s (x :: xs) [] false
  | eq {y x : Value} {ys xs : List Value} {b : Bool} : EqU U s y x true → LexU U s ys xs b → LexU U s (y :: ys) (x :: xs) b
  | ne {y x : Value} {ys xs : List Value} {b : Bool} : EqU U s y x false → LtU U s y x b → LexU U s (y :: ys) (x :: xs) b
section
open PySem.SeqAt
open PySem.AutoSeq1 (wpAny_loadPart')
open PySem.MeetsSeq PySem.MeetsSeq2 PySem.MeetsSeq3
end
end EV
set_option Elab.async false
set_option linter.all false
set_option autoImplicit false
set_option maxRecDepth 100000
namespace EV
open PySem PySem.W PyProof.Rows
mutual
/-- < of data: numbers, texts, tuples of such -/
def ltD : PyData → PyData → Option Bool
  | .int i, .int j => some (decide (i < j))
  | .str x, .str y => some (decide (x.cps.toList < y.cps.toList))
  | .tuple xs, .tuple ys => ltDs xs ys
  | _, _ => none
def ltDs : List PyData → List PyData → Option Bool
  | [], [] => some false
  | [], _ :: _ => some true
  | _ :: _, [] => some false
  | x :: xs, y :: ys => if PyData.eqv x y = true then ltDs xs ys else ltD x y
end
end EV
set_option Elab.async false
set_option linter.all false
set_option autoImplicit false
set_option maxRecDepth 100000
namespace EV
open PySem
mutual
/-- numbers, texts, tuples of such -/
def pure0 : PyData → Bool
  | .int _ => true
  | .str _ => true
  | .tuple xs => pures0 xs
  | _ => false
def pures0 : List PyData → Bool
  | [] => true
  | x :: xs => pure0 x && pures0 xs
end
mutual
/-- data as a row of numbers, in whose order it stands -/
def enc : PyData → List Int
  | .int i => [1, i]
  | .str x => 2 :: (x.cps.toList.map fun (c : Nat) => (c : Int) + 1) ++ [0]
  | .tuple xs => 3 :: encs xs ++ [0]
  | _ => []
def encs : List PyData → List Int
  | [] => []
  | x :: xs => enc x ++ encs xs
end
end EV
set_option Elab.async false
set_option linter.all false
set_option autoImplicit false
set_option maxRecDepth 100000
namespace EV
open PySem PySem.W PyProof.Rows
section
variable (r : Nat → Int) (n : Nat)
end
section
def rk (ds : List PyData) (i : Nat) : Int := ((ds.countP fun d => decide (enc d < enc (ds.getD i .none)) : Nat) : Int)
end
end EV
set_option Elab.async false
set_option linter.all false
set_option autoImplicit false
set_option maxRecDepth 100000
namespace EV
open PySem PySem.W PyProof.Rows
section
variable {prog : Program} {w : World} {A : Around} {E : Value → Shared → Prop} {s : Shared}
end
end EV
set_option Elab.async false
set_option linter.all false
set_option autoImplicit false
set_option maxRecDepth 100000
namespace EV
open PySem PySem.W PyProof.Rows
def kb : PyData → Nat
  | .int _ => 0
  | .str _ => 1
  | _ => 2
def kd : PyData → Option Nat
  | .int _ => some 0
  | .str _ => some 1
  | .tuple (x :: _) => some (2 + kb x)
  | _ => none
structure SortOk (ds : List PyData) : Prop where
  few : ds.length < 64
  pure : ∀ d ∈ ds, pure0 d = true
  lay : PyData.canLayAll0 ds = true
  dep : PyData.depthAll ds ≤ 50
  kind : ∃ k, ∀ d ∈ ds, kd d = some k
  cmp : ∀ d ∈ ds, ∀ e ∈ ds, (ltD d e).isSome = true
theorem readsAll_get {h : Heap} : ∀ {vs : List Value} {ds : List PyData} {as : List Addr} {i : Nat}, ReadsAll h vs ds as → i < ds.length → ∃ bs, Reads h (vs.getD i Value.none) (ds.getD i .none) bs
  | _, _, _, _, .nil, hi => by simp at hi
  | _, _, _, 0, .cons a _, _ => ⟨_, a⟩
  | _, _, _, i + 1, .cons _ b, hi => by
    obtain ⟨bs, r⟩ := readsAll_get (i := i) b (by simpa using hi)
    exact ⟨bs, by simpa using r⟩
theorem getD_mem {ds : List PyData} {i : Nat} (hi : i < ds.length) : ds.getD i .none ∈ ds := by
  rw [List.getD_eq_getElem?_getD, List.getElem?_eq_getElem hi]; exact List.getElem_mem hi
section
variable {prog : Program} {w : World} {A : Around} {E : Value → Shared → Prop} {s : Shared}
def tyK : Nat → Value
  | 0 => .type "int"
  | 1 => .type "str"
  | _ => .type "tuple"
def kindOf : Nat → SortKind
  | 0 => oneType'
  | 1 => oneType'
  | k + 2 => tuples' (tyK k != Value.type "tuple")
end
end EV
set_option Elab.async false
set_option linter.all false
set_option autoImplicit false
set_option maxRecDepth 100000
namespace EV
open PySem PySem.W PyProof.Rows
end EV
set_option Elab.async false
set_option linter.all false
set_option autoImplicit false
set_option maxRecDepth 100000
namespace EV
open PySem PySem.Spec PyProof.Rows L2
section
variable {X : Cx}
mutual
def ofP : PyData → D
  | .int i => .int i
  | .str x => .str x
  | .tuple xs => .tup (ofPs xs)
  | _ => .non
def ofPs : List PyData → List D
  | [] => []
  | x :: xs => ofP x :: ofPs xs
end
theorem pures_all : ∀ {ds : List PyData}, (∀ d ∈ ds, pure0 d = true) → pures0 ds = true
  | [], _ => by simp [pures0]
  | d :: ds, h => by simp [pures0, h d (by simp), pures_all fun e he => h e (List.mem_cons_of_mem _ he)]
end
end EV
set_option Elab.async false
set_option linter.all false
set_option autoImplicit false
set_option maxRecDepth 100000
namespace EV
open PySem PySem.Spec L2
section
variable {S : PenSys} {N : Bool} {O O' Ob : List Nat}
mutual
def tOf : PyData → T
  | .int i => .int i
  | .str x => .str x
  | .tuple xs => .tup (tOfs xs)
  | _ => .non
def tOfs : List PyData → List T
  | [] => []
  | x :: xs => tOf x :: tOfs xs
end
mutual
theorem rd_of {p : Nat} {B : Nat → Prop} {h : AH} : ∀ (d : PyData), pure0 d = true → Rd p B h (ofP d) (tOf d)
  | .int i, _ => by simp only [ofP, tOf]; exact .int i
  | .str x, _ => by simp only [ofP, tOf]; exact .str x
  | .tuple xs, k => by simp only [ofP, tOf]; exact .tup (rds_of xs (by simpa [pure0] using k))
  | .none, k => by simp [pure0] at k
  | .bool _, k => by simp [pure0] at k
  | .list _, k => by simp [pure0] at k
  | .dict _, k => by simp [pure0] at k
theorem rds_of {p : Nat} {B : Nat → Prop} {h : AH} : ∀ (ds : List PyData), pures0 ds = true → Rds p B h (ofPs ds) (tOfs ds)
  | [], _ => by simp only [ofPs, tOfs]; exact .nil
  | x :: xs, k => by
    simp only [pures0, Bool.and_eq_true] at k
    simp only [ofPs, tOfs]
    exact .cons (rd_of x k.1) (rds_of xs k.2)
end
end
end EV
set_option Elab.async false
set_option linter.all false
set_option autoImplicit false
set_option maxRecDepth 100000
namespace EV
open PySem PySem.Spec L2
section
variable {S : PenSys} {N : Bool} {O O' Ob : List Nat}
end
end EV
set_option Elab.async false
set_option linter.all false
set_option autoImplicit false
set_option maxRecDepth 100000
namespace EV
open PySem PyProof.Rows
section
open PySem.SeqAt
open PySem.AutoSeq1 (wpAny_loadPart')
open PySem.MeetsSeq PySem.MeetsSeq2 PySem.MeetsSeq3
end
end EV
set_option Elab.async false
set_option linter.all false
set_option autoImplicit false
set_option maxRecDepth 100000
namespace EV
open PySem PySem.Spec PyProof.Rows L2
section
variable {X : Cx}
end
end EV
set_option Elab.async false
set_option linter.all false
set_option autoImplicit false
set_option maxRecDepth 100000
namespace EV
open PySem PySem.Spec PyProof.Rows L2
section
variable {X : Cx}
end
end EV
set_option Elab.async false
set_option linter.all false
set_option autoImplicit false
set_option maxRecDepth 100000
namespace EV
open PySem PySem.Spec L2
section
variable {S : PenSys} {N : Bool} {O O' Ob : List Nat}
end
end EV
set_option Elab.async false
set_option linter.all false
set_option autoImplicit false
set_option maxRecDepth 100000
namespace EV
open PySem PySem.Spec PyProof.Rows L2
section
variable {X : Cx}
theorem RVs.get? {K : PySem.W.Frag} {ρ : List Addr} {H : Hp} : ∀ {xs : List D} {ys : List V} {i : Nat} {v : D}, RVs K ρ H xs ys → xs[i]? = some v → ∃ y, ys[i]? = some y ∧ RV K ρ H v y
  | _, _, _, _, .nil, e => by simp at e
  | _, _, 0, _, .cons a _, e => by simp at e; subst e; exact ⟨_, rfl, a⟩
  | _, _, i + 1, v, .cons _ b, e => by
    obtain ⟨y, h1, h2⟩ := RVs.get? (i := i) (v := v) b (by simpa using e)
    exact ⟨y, by simpa using h1, h2⟩
theorem RVs.erase {K : PySem.W.Frag} {ρ : List Addr} {H : Hp} : ∀ {xs : List D} {ys : List V} (i : Nat), RVs K ρ H xs ys → RVs K ρ H (xs.eraseIdx i) (ys.eraseIdx i)
  | _, _, _, .nil => .nil
  | _, _, 0, .cons _ b => b
  | _, _, i + 1, .cons a b => .cons a (RVs.erase i b)
theorem RVs.dropLast {K : PySem.W.Frag} {ρ : List Addr} {H : Hp} : ∀ {xs : List D} {ys : List V}, RVs K ρ H xs ys → RVs K ρ H xs.dropLast ys.dropLast
  | _, _, .nil => .nil
  | _, _, .cons _ .nil => .nil
  | _, _, .cons a (.cons b c) => .cons a (RVs.dropLast (.cons b c))
end
end EV
set_option Elab.async false
set_option linter.all false
set_option autoImplicit false
set_option maxRecDepth 100000
namespace EV
open PySem PySem.Spec L2
abbrev QM := T → T → Nat → Prop
abbrev WM := TFr → Nat → QM → Prop
def JM (S : PenSys) (O : List Nat) (k : Nat) (f : EF) (φ : WM) : Prop := ∀ (p q L : Nat) (B : Nat → Prop) (h : AH) (c : Nat) (σ : Fr) (τ : TFr) (Q : QM), Good S p q B h c → p < L → q < L → L ≤ h.length → RF p B L O h σ τ → (∃ u, τ[k]? = some (some u)) → φ τ c Q →
  ∃ v h' t u c', f σ h = .ok v h' ∧ h.length ≤ h'.length ∧ (∀ m, m < h.length → m ≠ p → σ[k]? ≠ some (some (.ref m)) → h'[m]? = h[m]?) ∧ Good S p q B h' c' ∧ RF p B L O h' σ (τ.set k (some u)) ∧ Rd p B h' v t ∧ Q t u c'
def JMN (S : PenSys) (O : List Nat) (k : Nat) (f : EF) (φ : WM) : Prop := ∀ (p q L : Nat) (B : Nat → Prop) (h : AH) (c : Nat) (σ : Fr) (τ : TFr) (Q : QM), Good S p q B h c → p < L → q < L → L ≤ h.length → RF p B L O h σ τ → (∃ u, τ[k]? = some (some u)) → φ τ c Q →
  ∃ n h' t u c', f σ h = .ok (.ref n) h' ∧ h.length ≤ n ∧ h.length ≤ h'.length ∧ (∀ m, m < h.length → m ≠ p → σ[k]? ≠ some (some (.ref m)) → h'[m]? = h[m]?) ∧ Good S p q B h' c' ∧ RF p B L O h' σ (τ.set k (some u)) ∧ Own p (fun m => B m ∨ m = n) h' n t ∧ Q t u c'
section
variable {S : PenSys} {N : Bool} {O O' Ob : List Nat} {k : Nat}
theorem JMN.m {f : EF} {φ : WM} (j : JMN S O k f φ) : JM S O k f φ := fun p q L B h c σ τ Q G pl ql hL r ek w => by
  obtain ⟨n, h', t, u, c', e, ln, l1, at1, G', R', o, w'⟩ := j p q L B h c σ τ Q G pl ql hL r ek w
  exact ⟨_, h', t, u, c', e, l1, at1, G', R', o.rd (q := q) fun b => by have := G.al n b; omega, w'⟩
theorem Rds.erase {p : Nat} {B : Nat → Prop} {h : AH} : ∀ {xs : List D} {ts : List T} (i : Nat), Rds p B h xs ts → Rds p B h (xs.eraseIdx i) (ts.eraseIdx i)
  | _, _, _, .nil => .nil
  | _, _, 0, .cons _ b => b
  | _, _, i + 1, .cons a b => .cons a (Rds.erase i b)
theorem Rds.dropLast {p : Nat} {B : Nat → Prop} {h : AH} : ∀ {xs : List D} {ts : List T}, Rds p B h xs ts → Rds p B h xs.dropLast ts.dropLast
  | _, _, .nil => .nil
  | _, _, .cons _ .nil => .nil
  | _, _, .cons a (.cons b c) => .cons a (Rds.dropLast (.cons b c))
end
end EV
set_option Elab.async false
set_option linter.all false
set_option autoImplicit false
set_option maxRecDepth 100000
namespace EV
open PySem PySem.Spec PyProof.Rows L2
section
variable {X : Cx}
end
end EV
set_option Elab.async false
set_option linter.all false
set_option autoImplicit false
set_option maxRecDepth 100000
namespace EV
open PySem PySem.Spec L2
section
variable {S : PenSys} {O : List Nat}
end
end EV
set_option Elab.async false
set_option linter.all false
set_option autoImplicit false
set_option maxRecDepth 100000
namespace EV
open PySem PySem.Spec PyProof.Rows L2
end EV
set_option Elab.async false
set_option linter.all false
set_option autoImplicit false
set_option maxRecDepth 100000
namespace EV
open PySem PySem.Spec PyProof.Rows L2
section
variable {X : Cx} {a b : Expr} {rest : List Expr} {pos : Pos} {ta tb : TE}
end
section
variable {X : Cx}
end
end EV
set_option Elab.async false
set_option linter.all false
set_option autoImplicit false
set_option maxRecDepth 100000
namespace EV
open PySem PySem.Spec PyProof.Rows L2
section
variable {X : Cx}
end
end EV
set_option Elab.async false
set_option linter.all false
set_option autoImplicit false
set_option maxRecDepth 100000
namespace EV
open PySem PySem.Spec PyProof.Rows L2
section
variable {X : Cx}
end
end EV
set_option Elab.async false
set_option linter.all false
set_option autoImplicit false
set_option maxRecDepth 100000
namespace EV
open PySem PySem.Spec PyProof.Rows L2
section
variable {X : Cx}
inductive NoTx (K : PySem.W.Frag) (H : Hp) : V → Prop
  | non : NoTx K H .non
  | bl (b : Bool) : NoTx K H (.bl b)
  | int (i : Int) : NoTx K H (.int i)
  | lst {a : Addr} {xs : List V} : SqL K H a xs → NoTx K H (.ref a)
  | tup {a : Addr} {xs : List V} : SqT K H a xs → NoTx K H (.ref a)
  | dct {a : Addr} {kvs : List (Key × V)} : H a = some (.dK kvs) → NoTx K H (.ref a)
  | dtt {a : Addr} {kvs : List (List Key × V)} : H a = some (.dT kvs) → NoTx K H (.ref a)
end
end EV
set_option Elab.async false
set_option linter.all false
set_option autoImplicit false
set_option maxRecDepth 100000
namespace EV
open PySem PySem.Spec PyProof.Rows L2
section
variable {prog : Program} {w : World} {A : Around} {I : Addr} {fp wr : List Addr} {P : Nat → Value → Prop} {St : Nat → Heap → Prop} {R : Result → Shared → Prop}
end
variable {X : Cx}
end EV
set_option Elab.async false
set_option linter.all false
set_option autoImplicit false
set_option maxRecDepth 100000
namespace EV
open PySem PySem.Spec L2
section
variable {S : PenSys} {O : List Nat}
theorem Rd.tru {p : Nat} {B : Nat → Prop} {h1 : AH} {x : D} {tx : T} {b : Bool} (r1 : Rd p B h1 x tx) (eb : tx.tru = some b) : truD x h1 = some b := by
  have em : ∀ {xs : List D} {ts : List T}, Rds p B h1 xs ts → xs.isEmpty = ts.isEmpty := fun r => by cases r <;> rfl
  have r1 : RdX p B h1 x tx := .inl r1
  cases tx with
  | non => have := r1.non; subst this; exact eb
  | bl => have := r1.bl; subst this; exact eb
  | int => have := r1.int; subst this; exact eb
  | tup ts => obtain ⟨xs, rfl, r⟩ := r1.tup; simp only [truD, em r]; exact eb
  | lst ts => obtain ⟨n, xs, r, rfl, e⟩ := r1.lst; simp only [truD, e, em r]; exact eb
  | _ => simp [T.tru] at eb
def wOrT (f g : WE) : WE := fun τ c Q => f τ c fun x c1 => match x.tru with | some true => Q x c1 | some false => g τ c1 Q | none => False
def wAndT (f g : WE) : WE := fun τ c Q => f τ c fun x c1 => match x.tru with | some false => Q x c1 | some true => g τ c1 Q | none => False
theorem wOrT_d {f g : WE} {τ : TFr} {c : Nat} {Q : QT} : wOrT f g τ c Q = (f τ c fun x c1 => match x.tru with | some true => Q x c1 | some false => g τ c1 Q | none => False) := id rfl
theorem wAndT_d {f g : WE} {τ : TFr} {c : Nat} {Q : QT} : wAndT f g τ c Q = (f τ c fun x c1 => match x.tru with | some false => Q x c1 | some true => g τ c1 Q | none => False) := id rfl
end
end EV
set_option Elab.async false
set_option linter.all false
set_option autoImplicit false
set_option maxRecDepth 100000
namespace EV
open PySem PySem.Spec L2
section
variable {S : PenSys} {O : List Nat}
end
end EV
set_option Elab.async false
set_option linter.all false
set_option autoImplicit false
set_option maxRecDepth 100000
namespace EV
open PySem PySem.Spec PyProof.Rows L2
variable {S : PenSys}
end EV
set_option Elab.async false
set_option linter.all false
set_option autoImplicit false
set_option maxRecDepth 100000
namespace EV
open PySem PySem.Spec PyProof.Rows L2
section
variable {X : Cx}
inductive IntTs (K : PySem.W.Frag) (H : Hp) : List V → List (List Int) → Prop
  | nil : IntTs K H [] []
  | cons {a : Addr} {is : List Int} {ys : List V} {iss : List (List Int)} : SqT K H a (is.map V.int) → IntTs K H ys iss → IntTs K H (.ref a :: ys) (is :: iss)
end
end EV
set_option Elab.async false
set_option linter.all false
set_option autoImplicit false
set_option maxRecDepth 100000
namespace EV
open PySem PySem.Spec L2
section
variable {S : PenSys} {O : List Nat}
end
end EV
set_option Elab.async false
set_option linter.all false
set_option autoImplicit false
set_option maxRecDepth 100000
namespace EV
open PySem
namespace ST
abbrev Pb := SetTable.Probe
def stp (k : Nat) (p : Pb) : Pb :=
  if p.more > 0 then { p with j := p.j + 1, more := p.more - 1 } else
  { p with j := (p.i * 5 + 1 + p.perturb / 32) % (k + 1), more := SetTable.runEnd k ((p.i * 5 + 1 + p.perturb / 32) % (k + 1)) - (p.i * 5 + 1 + p.perturb / 32) % (k + 1), i := (p.i * 5 + 1 + p.perturb / 32) % (k + 1), perturb := p.perturb / 32 }
def wk (k : Nat) : Nat → Pb → Pb
  | 0, p => p
  | n + 1, p => wk k n (stp k p)
theorem wk_add (k : Nat) : ∀ (m n : Nat) (p : Pb), wk k (m + n) p = wk k n (wk k m p)
  | 0, n, p => by rw [Nat.zero_add]; rfl
  | m + 1, n, p => by rw [Nat.succ_add]; exact wk_add k m n (stp k p)
structure PI (k : Nat) (p : Pb) : Prop where
  i : p.i ≤ k
  q : p.perturb < 2 ^ 64
  m : p.more ≤ 9
  j : p.j + p.more ≤ k
  d : p.dummy = none
theorem run_le (k i : Nat) (h : i ≤ k) : SetTable.runEnd k i - i ≤ 9 ∧ i + (SetTable.runEnd k i - i) ≤ k := by
  unfold SetTable.runEnd; split <;> omega
theorem PI.stp {k : Nat} {p : Pb} (h : PI k p) : PI k (stp k p) := by
  unfold ST.stp
  split
  · exact ⟨h.i, h.q, by have := h.m; show p.more - 1 ≤ 9; omega, by have := h.j; show p.j + 1 + (p.more - 1) ≤ k; omega, h.d⟩
  · have hb : (p.i * 5 + 1 + p.perturb / 32) % (k + 1) ≤ k := Nat.le_of_lt_succ (Nat.mod_lt _ (Nat.succ_pos k))
    obtain ⟨a, b⟩ := run_le k _ hb
    exact ⟨hb, Nat.lt_of_le_of_lt (Nat.div_le_self _ _) h.q, a, b, h.d⟩
theorem PI.wk {k : Nat} : ∀ (n : Nat) {p : Pb}, PI k p → PI k (wk k n p)
  | 0, _, h => h
  | n + 1, _, h => PI.wk n h.stp
theorem PI.jle {k : Nat} {p : Pb} (h : PI k p) : p.j ≤ k := by have := h.j; omega
theorem leave {k : Nat} : ∀ (m : Nat) (p : Pb), p.more = m → wk k (m + 1) p = { p with j := (p.i * 5 + 1 + p.perturb / 32) % (k + 1), more := SetTable.runEnd k ((p.i * 5 + 1 + p.perturb / 32) % (k + 1)) - (p.i * 5 + 1 + p.perturb / 32) % (k + 1), i := (p.i * 5 + 1 + p.perturb / 32) % (k + 1), perturb := p.perturb / 32 }
  | 0, p, e => by
    show stp k p = _
    unfold stp
    rw [if_neg (by omega)]
  | m + 1, p, e => by
    show wk k (m + 1) (stp k p) = _
    have e2 : stp k p = { p with j := p.j + 1, more := p.more - 1 } := by unfold stp; rw [if_pos (by omega)]
    rw [e2, leave m _ (by show p.more - 1 = m; omega)]
theorem still {k : Nat} : ∀ (m : Nat) (p : Pb), m ≤ p.more → (wk k m p).j = p.j + m
  | 0, p, _ => rfl
  | m + 1, p, e => by
    show (wk k m (stp k p)).j = _
    have e2 : stp k p = { p with j := p.j + 1, more := p.more - 1 } := by unfold stp; rw [if_pos (by omega)]
    rw [e2, still m _ (by show m ≤ p.more - 1; omega)]
    show p.j + 1 + m = _
    omega
def nx (k i : Nat) : Nat := (i * 5 + 1) % (k + 1)
def it (k : Nat) : Nat → Nat → Nat
  | 0, i => i
  | n + 1, i => it k n (nx k i)
theorem calm {k : Nat} : ∀ (c : Nat) (p : Pb), PI k p → p.perturb < 32 ^ c → ∃ m, m ≤ 10 * c ∧ (wk k m p).perturb = 0
  | 0, p, _, h => ⟨0, Nat.le_refl _, by show p.perturb = 0; simp at h; exact h⟩
  | c + 1, p, hp, h => by
    have e := leave (k := k) p.more p rfl
    have hq := PI.wk (p.more + 1) hp
    obtain ⟨m, h1, h2⟩ := calm c (wk k (p.more + 1) p) hq (by
      rw [e]; show p.perturb / 32 < 32 ^ c
      rw [Nat.div_lt_iff_lt_mul (by decide)]; rw [Nat.pow_succ] at h; exact h)
    refine ⟨p.more + 1 + m, ?_, by rw [wk_add]; exact h2⟩
    have := hp.m; omega
theorem round {k : Nat} : ∀ (c : Nat) (p : Pb), PI k p → p.perturb = 0 → ∃ m, m ≤ 10 * (c + 1) ∧ (wk k m p).j = it k (c + 1) p.i
  | 0, p, hp, h => by
    have e := leave (k := k) p.more p rfl
    refine ⟨p.more + 1, by have := hp.m; omega, ?_⟩
    rw [e, h]; show (p.i * 5 + 1 + 0 / 32) % (k + 1) = nx k p.i
    simp [nx]
  | c + 1, p, hp, h => by
    have e := leave (k := k) p.more p rfl
    have hq := PI.wk (p.more + 1) hp
    obtain ⟨m, h1, h2⟩ := round c (wk k (p.more + 1) p) hq (by rw [e, h])
    refine ⟨p.more + 1 + m, by have := hp.m; omega, ?_⟩
    rw [wk_add, h2, e, h]
    show it k (c + 1) ((p.i * 5 + 1 + 0 / 32) % (k + 1)) = it k (c + 1) (nx k p.i)
    simp [nx]
def itl (k : Nat) : Nat → Nat → List Nat
  | 0, _ => []
  | n + 1, i => nx k i :: itl k n (nx k i)
theorem itl_mem (k : Nat) : ∀ (n i x : Nat), x ∈ itl k n i → ∃ c, c < n ∧ it k (c + 1) i = x
  | 0, _, _, h => by simp [itl] at h
  | n + 1, i, x, h => by
    simp only [itl, List.mem_cons] at h
    rcases h with rfl | h
    · exact ⟨0, by omega, rfl⟩
    · obtain ⟨c, h1, h2⟩ := itl_mem k n (nx k i) x h
      exact ⟨c + 1, by omega, h2⟩
theorem it_add (k : Nat) : ∀ (m n i : Nat), it k (m + n) i = it k n (it k m i)
  | 0, n, i => by rw [Nat.zero_add]; rfl
  | m + 1, n, i => by rw [Nat.succ_add]; exact it_add k m n (nx k i)
def fcb (k : Nat) : Bool := ((List.range (k + 1)).all fun t => (itl k (k + 1) 0).contains t) && it k (k + 1) 0 == 0
def Mk (k : Nat) : Prop := k = 7 ∨ k = 31 ∨ k = 127
theorem fc7 : fcb 7 = true := by decide +kernel
theorem fc31 : fcb 31 = true := by decide +kernel
theorem fc127 : fcb 127 = true := by decide +kernel
theorem full {k : Nat} (hk : Mk k) {i t : Nat} (hi : i ≤ k) (ht : t ≤ k) : ∃ c, c ≤ k ∧ it k (c + 1) i = t := by
  have h : fcb k = true := by rcases hk with rfl | rfl | rfl; exact fc7; exact fc31; exact fc127
  unfold fcb at h
  rw [Bool.and_eq_true] at h
  obtain ⟨h, h0⟩ := h
  have h0 := eq_of_beq h0
  have h1 := List.all_eq_true.mp h i (List.mem_range.mpr (by omega))
  have h2 := List.all_eq_true.mp h t (List.mem_range.mpr (by omega))
  obtain ⟨c, a, b⟩ := itl_mem k (k + 1) 0 i (List.contains_iff_mem.mp h1)
  obtain ⟨d, a2, b2⟩ := itl_mem k (k + 1) 0 t (List.contains_iff_mem.mp h2)
  by_cases hcd : c < d
  · refine ⟨d - c - 1, by omega, ?_⟩
    rw [← b, ← it_add, ← b2]; congr 1; omega
  · refine ⟨d + k - c, by omega, ?_⟩
    rw [← b, ← it_add, ← b2, show c + 1 + (d + k - c + 1) = k + 1 + (d + 1) by omega, it_add k (k + 1), h0]
theorem reach {k : Nat} (hk : Mk k) {p : Pb} (hp : PI k p) {t : Nat} (ht : t ≤ k) : ∃ m, m < 10 * (k + 15) ∧ (wk k m p).j = t := by
  obtain ⟨m, h1, h2⟩ := calm (k := k) 13 p hp (Nat.lt_of_lt_of_le hp.q (by decide))
  have hq := PI.wk m hp
  obtain ⟨c, h3, h4⟩ := full hk hq.i ht
  obtain ⟨m2, h5, h6⟩ := round (k := k) c (wk k m p) hq h2
  exact ⟨m + m2, by omega, by rw [wk_add, h6, h4]⟩
theorem go_ok (xs : Array Nat) (j : Nat) (up : xs.toList.Pairwise (· < ·)) : ∀ (f lo hi : Nat), lo ≤ hi → hi ≤ xs.size → hi - lo ≤ f → (∀ i, i < lo → ∀ x, xs.toList[i]? = some x → x < j) → (∀ i, hi ≤ i → ∀ x, xs.toList[i]? = some x → j ≤ x) →
    SetTable.below.go xs j f lo hi ≤ xs.size ∧ (∀ i, i < SetTable.below.go xs j f lo hi → ∀ x, xs.toList[i]? = some x → x < j) ∧ (∀ i, SetTable.below.go xs j f lo hi ≤ i → ∀ x, xs.toList[i]? = some x → j ≤ x)
  | 0, lo, hi, h1, h2, h3, a, b => by
    have : lo = hi := by omega
    subst this
    exact ⟨h2, a, b⟩
  | f + 1, lo, hi, h1, h2, h3, a, b => by
    unfold SetTable.below.go
    split
    · rename_i hl
      have hm : (lo + hi) / 2 < xs.size := by omega
      have em : xs.toList[(lo + hi) / 2]? = some (xs.getD ((lo + hi) / 2) j) := by simp [Array.getD, hm]
      dsimp only
      have inc : ∀ i k x y, i < k → xs.toList[i]? = some x → xs.toList[k]? = some y → x < y := fun i k x y ik ex ey => by
        obtain ⟨a1, a2⟩ := List.getElem?_eq_some_iff.mp ex
        obtain ⟨b1, b2⟩ := List.getElem?_eq_some_iff.mp ey
        rw [← a2, ← b2]; exact List.pairwise_iff_getElem.mp up i k a1 b1 ik
      by_cases hc : xs.getD ((lo + hi) / 2) j < j
      · rw [if_pos hc]
        refine go_ok xs j up f ((lo + hi) / 2 + 1) hi (by omega) h2 (by omega) (fun i hi' x ex => ?_) b
        by_cases e : i = (lo + hi) / 2
        · subst e; rw [em] at ex; cases ex; exact hc
        · exact Nat.lt_trans (inc i _ x _ (by omega) ex em) hc
      · rw [if_neg hc]
        refine go_ok xs j up f lo ((lo + hi) / 2) (by omega) (by omega) (by omega) a fun i hi' x ex => ?_
        by_cases e : i = (lo + hi) / 2
        · subst e; rw [em] at ex; cases ex; omega
        · exact Nat.le_of_lt (Nat.lt_of_le_of_lt (by omega) (inc _ i _ x (by omega) em ex))
    · have : lo = hi := by omega
      subst this
      exact ⟨h2, a, b⟩
theorem below_ok (xs : Array Nat) (j : Nat) (up : xs.toList.Pairwise (· < ·)) : SetTable.below xs j ≤ xs.size ∧ (∀ i, i < SetTable.below xs j → ∀ x, xs.toList[i]? = some x → x < j) ∧ (∀ i, SetTable.below xs j ≤ i → ∀ x, xs.toList[i]? = some x → j ≤ x) := by
  unfold SetTable.below
  refine go_ok xs j up xs.size 0 xs.size (Nat.zero_le _) (Nat.le_refl _) (by omega) (fun i h => by omega) fun i h x e => ?_
  obtain ⟨a1, a2⟩ := List.getElem?_eq_some_iff.mp e
  simp at a1; omega
section
variable {t : SetTable}
theorem some_free {l : List Nat} {k : Nat} (hl : l.length ≤ k) : ∃ j, j ≤ k ∧ j ∉ l := by
  apply Classical.byContradiction
  intro z
  have hs : List.range (k + 1) ⊆ l := fun x hx => by
    apply Classical.byContradiction
    intro y
    exact z ⟨x, by have := List.mem_range.mp hx; omega, y⟩
  have := List.Nodup.length_le_of_subset (List.nodup_range (n := k + 1)) hs
  rw [List.length_range] at this; omega
def start (k : Nat) (h : Int) : Pb := { j := SetTable.bits h % (k + 1), more := SetTable.runEnd k (SetTable.bits h % (k + 1)) - SetTable.bits h % (k + 1), i := SetTable.bits h % (k + 1), perturb := SetTable.bits h, dummy := none }
theorem PI.start (k : Nat) (h : Int) : PI k (start k h) := by
  have hb : SetTable.bits h % (k + 1) ≤ k := Nat.le_of_lt_succ (Nat.mod_lt _ (Nat.succ_pos k))
  obtain ⟨a, b⟩ := run_le k _ hb
  refine ⟨hb, ?_, a, b, rfl⟩
  show SetTable.bits h < 2 ^ 64
  unfold SetTable.bits; omega
def Way (k : Nat) (O : Nat → Prop) (h : Int) (j : Nat) : Prop := ∃ m, (wk k m (start k h)).j = j ∧ ∀ n, n < m → O (wk k n (start k h)).j
structure Tb (t : SetTable) (hs : List Int) : Prop where
  mks : Mk t.mask
  dm : t.dummies = #[]
  up : t.place.toList.Pairwise (· < ·)
  len : t.place.size = hs.length
  le : ∀ j ∈ t.place.toList, j ≤ t.mask
  few : hs.length ≤ t.mask
  way : ∀ (i j : Nat) (h : Int), t.place.toList[i]? = some j → hs[i]? = some h → Way t.mask (· ∈ t.place.toList) h j
theorem Tb.fresh (led : Bool) : Tb (.fresh 0 0 led) [] :=
  ⟨.inl rfl, rfl, List.Pairwise.nil, rfl, (fun _ h => by cases h), Nat.zero_le _, fun i j h e => by cases e⟩
theorem Tb.ends {hs : List Int} (T : Tb t hs) {p : Pb} (hp : PI t.mask p) : ∃ m, m < 1420 ∧ (wk t.mask m p).j ∉ t.place.toList := by
  obtain ⟨j, hj, hn⟩ := some_free (l := t.place.toList) (k := t.mask) (by rw [Array.length_toList, T.len]; exact T.few)
  obtain ⟨m, h1, h2⟩ := reach T.mks hp hj
  refine ⟨m, ?_, by rw [h2]; exact hn⟩
  have := T.mks; unfold Mk at this; omega
theorem put_eq (dm : t.dummies = #[]) (j : Nat) : t.put j = ({ t with place := SetTable.insertAt t.place (SetTable.below t.place j) j }, SetTable.below t.place j) := by
  unfold SetTable.put
  dsimp only
  rw [if_neg]
  unfold SetTable.has
  rw [dm]; simp
theorem ins_up {l : List Nat} {j p : Nat} (up : l.Pairwise (· < ·)) (h1 : ∀ i, i < p → ∀ x, l[i]? = some x → x < j) (h2 : ∀ i, p ≤ i → ∀ x, l[i]? = some x → j ≤ x) (hn : j ∉ l) : (l.take p ++ j :: l.drop p).Pairwise (· < ·) := by
  have a1 : ∀ x ∈ l.take p, x < j := fun x hx => by
    obtain ⟨i, hi⟩ := List.mem_iff_getElem?.mp hx
    by_cases hip : i < p
    · rw [List.getElem?_take, if_pos hip] at hi; exact h1 i hip x hi
    · rw [List.getElem?_take, if_neg hip] at hi; cases hi
  have a2 : ∀ x ∈ l.drop p, j < x := fun x hx => by
    obtain ⟨i, hi⟩ := List.mem_iff_getElem?.mp hx
    rw [List.getElem?_drop] at hi
    have := h2 (p + i) (by omega) x hi
    have : j ≠ x := fun z => hn (by rw [z]; exact List.mem_of_mem_drop hx)
    omega
  rw [List.pairwise_append]
  refine ⟨up.sublist (List.take_sublist _ _), ?_, fun x hx y hy => ?_⟩
  · rw [List.pairwise_cons]
    exact ⟨a2, up.sublist (List.drop_sublist _ _)⟩
  · rcases List.mem_cons.mp hy with rfl | hy
    · exact a1 x hx
    · exact Nat.lt_trans (a1 x hx) (a2 y hy)
theorem ins_get {α : Type} {l : List α} {a : α} {p : Nat} (hp : p ≤ l.length) (i : Nat) : (l.take p ++ a :: l.drop p)[i]? = if i < p then l[i]? else if i = p then some a else l[i - 1]? := by
  have hl : (l.take p).length = p := by rw [List.length_take]; omega
  by_cases h : i < p
  · rw [if_pos h, List.getElem?_append_left (by omega), List.getElem?_take, if_pos h]
  · rw [if_neg h, List.getElem?_append_right (by omega), hl]
    by_cases h2 : i = p
    · subst h2; simp
    · rw [if_neg h2]
      obtain ⟨c, hc⟩ : ∃ c, i - p = c + 1 := ⟨i - p - 1, by omega⟩
      rw [hc, List.getElem?_cons_succ, List.getElem?_drop]
      congr 1; omega
theorem Tb.put {hs : List Int} (T : Tb t hs) {j : Nat} {h : Int} (hj : j ≤ t.mask) (hn : j ∉ t.place.toList) (hw : Way t.mask (· ∈ t.place.toList) h j) (hr : hs.length + 1 ≤ t.mask) :
    Tb (t.put j).1 (hs.take (t.put j).2 ++ h :: hs.drop (t.put j).2) ∧ (t.put j).2 ≤ hs.length := by
  rw [put_eq T.dm]
  dsimp only
  obtain ⟨b1, b2, b3⟩ := below_ok t.place j T.up
  have e : (SetTable.insertAt t.place (SetTable.below t.place j) j).toList = t.place.toList.take (SetTable.below t.place j) ++ j :: t.place.toList.drop (SetTable.below t.place j) := SetTable.toList_insertAt _ _ _
  have hp : SetTable.below t.place j ≤ hs.length := by rw [← T.len]; exact b1
  have hp2 : SetTable.below t.place j ≤ t.place.toList.length := by rw [Array.length_toList]; exact b1
  have mem : ∀ x, x ∈ t.place.toList → x ∈ (SetTable.insertAt t.place (SetTable.below t.place j) j).toList := fun x hx => by
    rw [e, List.mem_append, List.mem_cons]
    rw [← List.take_append_drop (SetTable.below t.place j) t.place.toList, List.mem_append] at hx
    rcases hx with hx | hx
    · exact .inl hx
    · exact .inr (.inr hx)
  have mono : ∀ h' j', Way t.mask (· ∈ t.place.toList) h' j' → Way t.mask (· ∈ (SetTable.insertAt t.place (SetTable.below t.place j) j).toList) h' j' := fun h' j' ⟨m, z1, z2⟩ => ⟨m, z1, fun n hn => mem _ (z2 n hn)⟩
  refine ⟨⟨T.mks, T.dm, by rw [e]; exact ins_up T.up b2 b3 hn, ?_, ?_, ?_, ?_⟩, hp⟩
  · rw [← Array.length_toList, e]; simp; have := T.len; omega
  · intro x hx
    rw [e, List.mem_append, List.mem_cons] at hx
    rcases hx with hx | rfl | hx
    · exact T.le x (List.mem_of_mem_take hx)
    · exact hj
    · exact T.le x (List.mem_of_mem_drop hx)
  · simp; omega
  · intro i j' h' e1 e2
    rw [e, ins_get hp2] at e1
    rw [ins_get hp] at e2
    by_cases c1 : i < SetTable.below t.place j
    · rw [if_pos c1] at e1 e2; exact mono _ _ (T.way i j' h' e1 e2)
    · rw [if_neg c1] at e1 e2
      by_cases c2 : i = SetTable.below t.place j
      · rw [if_pos c2] at e1 e2; cases e1; cases e2; exact mono _ _ hw
      · rw [if_neg c2] at e1 e2; exact mono _ _ (T.way (i - 1) j' h' e1 e2)
end
end ST
end EV
set_option Elab.async false
set_option linter.all false
set_option autoImplicit false
set_option maxRecDepth 100000
namespace EV
open PySem
namespace ST
def lp (k : Nat) (p : Pb) : Pb := wk k (p.more + 1) p
def lpn (k : Nat) : Nat → Pb → Pb
  | 0, p => p
  | n + 1, p => lpn k n (lp k p)
theorem lpn_add (k : Nat) : ∀ (m n : Nat) (p : Pb), lpn k (m + n) p = lpn k n (lpn k m p)
  | 0, n, p => by rw [Nat.zero_add]; rfl
  | m + 1, n, p => by rw [Nat.succ_add]; exact lpn_add k m n (lp k p)
theorem lp_eq (k : Nat) (p : Pb) : lp k p = { p with j := (p.i * 5 + 1 + p.perturb / 32) % (k + 1), more := SetTable.runEnd k ((p.i * 5 + 1 + p.perturb / 32) % (k + 1)) - (p.i * 5 + 1 + p.perturb / 32) % (k + 1), i := (p.i * 5 + 1 + p.perturb / 32) % (k + 1), perturb := p.perturb / 32 } := leave p.more p rfl
theorem PI.lp {k : Nat} {p : Pb} (h : PI k p) : PI k (lp k p) := PI.wk _ h
theorem PI.lpn {k : Nat} : ∀ (n : Nat) {p : Pb}, PI k p → PI k (lpn k n p)
  | 0, _, h => h
  | n + 1, _, h => PI.lpn n h.lp
theorem calmL {k : Nat} : ∀ (c : Nat) (p : Pb), p.perturb < 32 ^ c → (lpn k c p).perturb = 0
  | 0, p, h => by show p.perturb = 0; simp at h; exact h
  | c + 1, p, h => by
    refine calmL c (lp k p) ?_
    rw [lp_eq]; show p.perturb / 32 < 32 ^ c
    rw [Nat.div_lt_iff_lt_mul (by decide)]; rw [Nat.pow_succ] at h; exact h
theorem roundL {k : Nat} : ∀ (c : Nat) (p : Pb), p.perturb = 0 → (lpn k (c + 1) p).j = it k (c + 1) p.i
  | 0, p, h => by
    show (lp k p).j = nx k p.i
    rw [lp_eq, h]; simp [nx]
  | c + 1, p, h => by
    show (lpn k (c + 1) (lp k p)).j = it k (c + 1) (nx k p.i)
    rw [roundL c (lp k p) (by rw [lp_eq, h]), lp_eq, h]
    simp [nx]
theorem reachL {k : Nat} (hk : Mk k) {p : Pb} (hp : PI k p) {t : Nat} (ht : t ≤ k) : ∃ c, c < k + 15 ∧ (lpn k c p).j = t := by
  have h2 := calmL (k := k) 13 p (Nat.lt_of_lt_of_le hp.q (by decide))
  obtain ⟨c, h3, h4⟩ := full hk (PI.lpn 13 hp).i ht
  exact ⟨13 + (c + 1), by omega, by rw [lpn_add, roundL c _ h2, h4]⟩
def Oc (ow : Array (Option Nat)) (j : Nat) : Prop := ∃ x, ow[j]? = some (some x)
theorem oc_get {ow : Array (Option Nat)} {j : Nat} (hj : j < ow.size) : (ow.getD j (some 0)).isNone = false ↔ Oc ow j := by
  unfold Oc
  simp only [Array.getD, hj, dite_true, Array.getElem?_eq_getElem hj, Option.some.injEq]
  show (ow[j]).isNone = false ↔ _
  cases ow[j] with
  | none => simp
  | some x => simp
theorem free_spec {k : Nat} {ow : Array (Option Nat)} (hs : ow.size = k + 1) : ∀ (f : Nat) (p : Pb), PI k p → p.j = p.i → p.more = SetTable.runEnd k p.i - p.i → (∃ c, c < f ∧ ¬ Oc ow (lpn k c p).j) →
    ∃ m, SetTable.layClean.free k ow f p.i p.perturb = some (wk k m p).j ∧ ¬ Oc ow (wk k m p).j ∧ ∀ n, n < m → Oc ow (wk k n p).j
  | 0, p, _, _, _, ⟨c, h, _⟩ => by omega
  | f + 1, p, hp, hj, hm, ⟨c, h1, h2⟩ => by
    have hrun : SetTable.runEnd k p.i + 1 - p.i = p.more + 1 := by
      rw [hm]; unfold SetTable.runEnd; split <;> omega
    have hb := hp.j
    unfold SetTable.layClean.free
    rw [hrun]
    cases hf : (List.range (p.more + 1)).find? (fun n => (ow.getD (p.i + n) (some 0)).isNone) with
    | some n =>
      rw [List.find?_range_eq_some] at hf
      obtain ⟨z1, z2, z3⟩ := hf
      have z2 := List.mem_range.mp z2
      have e : ∀ m, m ≤ n → (wk k m p).j = p.i + m := fun m hm => by rw [still m p (by omega), hj]
      refine ⟨n, by rw [e n (Nat.le_refl _)], ?_, fun m hm => ?_⟩
      · rw [e n (Nat.le_refl _), ← oc_get (by omega), z1]; simp
      · rw [e m (by omega), ← oc_get (by omega)]
        have := z3 m hm
        simpa using this
    | none =>
      have occ : ∀ n, n ≤ p.more → Oc ow (wk k n p).j := fun n hn => by
        rw [still n p hn, hj, ← oc_get (by omega)]
        have := List.find?_eq_none.mp hf n (List.mem_range.mpr (by omega))
        exact Bool.eq_false_iff.mpr this
      obtain ⟨c', rfl⟩ : ∃ c', c = c' + 1 := by
        cases c with
        | zero => exact absurd (occ 0 (Nat.zero_le _)) h2
        | succ c' => exact ⟨c', rfl⟩
      have el := lp_eq k p
      obtain ⟨m, a, b, d⟩ := free_spec hs f (lp k p) hp.lp (by rw [el]) (by rw [el]) ⟨c', by omega, h2⟩
      refine ⟨p.more + 1 + m, ?_, ?_, fun n hn => ?_⟩
      · show SetTable.layClean.free k ow f ((p.i * 5 + 1 + p.perturb / 32) % (k + 1)) (p.perturb / 32) = _
        rw [wk_add, ← show lp k p = wk k (p.more + 1) p from rfl, ← a, el]
      · rw [wk_add]; exact b
      · by_cases hn2 : n ≤ p.more
        · exact occ n hn2
        · have := d (n - (p.more + 1)) (by omega)
          rwa [show lp k p = wk k (p.more + 1) p from rfl, ← wk_add, show p.more + 1 + (n - (p.more + 1)) = n by omega] at this
structure OI (k : Nat) (hs : List Int) (ow : Array (Option Nat)) (n : Nat) : Prop where
  size : ow.size = k + 1
  lt : ∀ j x : Nat, ow[j]? = some (some x) → x < n
  inj : ∀ j j' x : Nat, ow[j]? = some (some x) → ow[j']? = some (some x) → j = j'
  way : ∀ x : Nat, x < n → ∃ (j : Nat) (h : Int), ow[j]? = some (some x) ∧ hs[x]? = some h ∧ Way k (Oc ow) h j
theorem OI.free {k n : Nat} {hs : List Int} {ow : Array (Option Nat)} (I : OI k hs ow n) (hn : n ≤ k) : ∃ j, j ≤ k ∧ ¬ Oc ow j := by
  apply Classical.byContradiction
  intro z
  have all : ∀ j, j ≤ k → Oc ow j := fun j hj => Classical.byContradiction fun y => z ⟨j, hj, y⟩
  have key : ∀ j, j ≤ k → ow[j]? = some (some ((ow.getD j none).getD 0)) := fun j hj => by
    obtain ⟨x, e⟩ := all j hj
    simp [Array.getD_eq_getD_getElem?, e]
  have nd : ((List.range (k + 1)).map fun j => (ow.getD j none).getD 0).Nodup := by
    rw [List.Nodup, List.pairwise_map]
    refine (List.pairwise_lt_range).imp_of_mem fun {a b} ha hb hab e => ?_
    have ha := List.mem_range.mp ha
    have hb := List.mem_range.mp hb
    have := I.inj a b _ (key a (by omega)) (by rw [key b (by omega), e])
    omega
  have sub : ((List.range (k + 1)).map fun j => (ow.getD j none).getD 0) ⊆ List.range n := fun x hx => by
    obtain ⟨j, hj, rfl⟩ := List.mem_map.mp hx
    have hj := List.mem_range.mp hj
    exact List.mem_range.mpr (I.lt j _ (key j (by omega)))
  have := List.Nodup.length_le_of_subset nd sub
  simp at this
  omega
theorem OI.step {k n : Nat} {hs : List Int} {ow : Array (Option Nat)} (hk : Mk k) (I : OI k hs ow n) (hn : n ≤ k) {h : Int} (hh : hs[n]? = some h) :
    ∃ j, SetTable.layClean.free k ow (SetTable.turns k) (SetTable.bits h % (k + 1)) (SetTable.bits h) = some j ∧ OI k hs (ow.setIfInBounds j (some n)) (n + 1) := by
  obtain ⟨t, ht, hf⟩ := I.free hn
  obtain ⟨c, c1, c2⟩ := reachL hk (PI.start k h) ht
  obtain ⟨m, a, b, d⟩ := free_spec I.size (k + 15) (start k h) (PI.start k h) rfl rfl ⟨c, c1, by rw [c2]; exact hf⟩
  have hj := (PI.wk m (PI.start k h)).jle
  generalize ej : (wk k m (start k h)).j = j at a b hj
  refine ⟨j, a, ?_⟩
  have hjs : j < ow.size := by rw [I.size]; omega
  have get : ∀ i, (ow.setIfInBounds j (some n))[i]? = if j = i then some (some n) else ow[i]? := fun i => by
    rw [Array.getElem?_setIfInBounds]
    by_cases e : j = i
    · subst e; simp [hjs]
    · simp [e]
  have old : ∀ i, Oc ow i → i ≠ j := fun i o e => b (e ▸ o)
  have mono : ∀ i, Oc ow i → Oc (ow.setIfInBounds j (some n)) i := fun i ⟨x, e⟩ => by
    by_cases e2 : j = i
    · exact ⟨n, by rw [get, if_pos e2]⟩
    · exact ⟨x, by rw [get, if_neg e2]; exact e⟩
  refine ⟨by rw [Array.size_setIfInBounds]; exact I.size, fun i x e => ?_, fun i i' x e1 e2 => ?_, fun x hx => ?_⟩
  · rw [get] at e
    by_cases e2 : j = i
    · rw [if_pos e2] at e; cases e; omega
    · rw [if_neg e2] at e; have := I.lt i x e; omega
  · rw [get] at e1 e2
    by_cases z1 : j = i <;> by_cases z2 : j = i'
    · omega
    · rw [if_pos z1] at e1; rw [if_neg z2] at e2; cases e1; have := I.lt i' _ e2; omega
    · rw [if_neg z1] at e1; rw [if_pos z2] at e2; cases e2; have := I.lt i _ e1; omega
    · rw [if_neg z1] at e1; rw [if_neg z2] at e2; exact I.inj i i' x e1 e2
  · by_cases e : x = n
    · subst e
      exact ⟨j, h, by rw [get, if_pos rfl], hh, m, ej, fun q hq => mono _ (d q hq)⟩
    · obtain ⟨j0, h0, e1, e2, m0, e3, e4⟩ := I.way x (by omega)
      exact ⟨j0, h0, by rw [get, if_neg fun z => old j0 ⟨x, e1⟩ z.symm]; exact e1, e2, m0, e3, fun q hq => mono _ (e4 q hq)⟩
end ST
end EV
set_option Elab.async false
set_option linter.all false
set_option autoImplicit false
set_option maxRecDepth 100000
namespace EV
open PySem PySem.W PyProof.Rows
namespace ST
section
variable (prog : Program) (w : World)
mutual
def hashD : PyData → Int
  | .int i => (intKind prog w).hash i
  | .str x => (PySem.strKind prog w).hash x
  | .tuple xs => reduceHash (Builtin.Tuple.tupleHashOf (hashDs xs))
  | _ => 0
def hashDs : List PyData → List Int
  | [] => []
  | x :: xs => hashD x :: hashDs xs
end
def HashAt (U : Nat) (h : Heap) (v : Value) (k : Int) : Prop := ∀ (A : Around) (E : Value → Shared → Prop) (s : Shared) (Q : Int → Shared → Prop), s.heap = h → A.units ≤ U → (∀ tk, Q k { s with toks := tk }) → wpAny (model prog w) A (pyHash v) Q E s
inductive HashAll (U : Nat) (h : Heap) : List Value → List Int → Prop
  | nil : HashAll U h [] []
  | cons {v : Value} {k : Int} {vs : List Value} {ks : List Int} : HashAt prog w U h v k → HashAll U h vs ks → HashAll U h (v :: vs) (k :: ks)
end
section
variable {prog : Program} {w : World}
variable {A : Around} {E : Value → Shared → Prop} {s : Shared}
end
end ST
end EV
set_option Elab.async false
set_option linter.all false
set_option autoImplicit false
set_option maxRecDepth 100000
namespace EV
open PySem PySem.W PyProof.Rows
namespace ST
def tupk (d : PyData) : Bool := (match d with | .tuple _ => true | _ => false) && pure0 d && d.canLay0 && decide (d.depth ≤ 8)
theorem tupk_pure {d : PyData} (h : tupk d = true) : pure0 d = true := by unfold tupk at h; simp only [Bool.and_eq_true] at h; exact h.1.1.2
theorem tupk_ref {d : PyData} (h : tupk d = true) {hp : Heap} {v : Value} {as : List Addr} (r : Reads hp v d as) : ∃ b, v = .ref b := by
  cases r with
  | tuple => exact ⟨_, rfl⟩
  | _ => simp [tupk] at h
section
variable {prog : Program} {w : World} {U : List Value}
structure SetIs (prog : Program) (w : World) (U : List Value) (h : Heap) (a : Addr) (o : Obj) (es : Array (Int × Value)) (ep : Nat) (t : SetTable) (ds : List PyData) : Prop where
  get : h.get? a = some o
  ex : o.ExactSet
  data : o.data = .set es ep t
  tb : Tb t (es.toList.map (·.1))
  hs : es.toList.map (·.1) = ds.map (hashD prog w)
  rd : ∃ as, ReadsAll h (es.toList.map (·.2)) ds as
  tk : ∀ d ∈ ds, tupk d = true
  nd : ds.Nodup
  led : t.led = !w.params.followText "set-order"
  room : es.size * 5 < t.mask * 3
  src : ∀ e ∈ es.toList, e.2 ∈ U
theorem SetIs.len {h : Heap} {a : Addr} {o : Obj} {es : Array (Int × Value)} {ep : Nat} {t : SetTable} {ds : List PyData} (S : SetIs prog w U h a o es ep t ds) : es.size = ds.length := by
  have := congrArg List.length S.hs
  simpa using this
theorem SetIs.pures {h : Heap} {a : Addr} {o : Obj} {es : Array (Int × Value)} {ep : Nat} {t : SetTable} {ds : List PyData} (S : SetIs prog w U h a o es ep t ds) : pures0 ds = true := pures_all fun d hd => tupk_pure (S.tk d hd)
theorem SetIs.at {h : Heap} {a : Addr} {o : Obj} {es : Array (Int × Value)} {ep : Nat} {t : SetTable} {ds : List PyData} (S : SetIs prog w U h a o es ep t ds) {i j : Nat} (hi : t.place.toList[i]? = some j) :
    ∃ b d as, es[i]? = some (hashD prog w d, .ref b) ∧ ds[i]? = some d ∧ Reads h (.ref b) d as := by
  have hlt : i < ds.length := by
    obtain ⟨z, _⟩ := List.getElem?_eq_some_iff.mp hi
    rw [← S.len]; have := S.tb.len; simp at this z; omega
  obtain ⟨as, ra⟩ := S.rd
  obtain ⟨bs, r⟩ := readsAll_get ra hlt
  have e1 : ds[i]? = some (ds.getD i .none) := by rw [List.getD_eq_getElem?_getD, List.getElem?_eq_getElem hlt]; rfl
  have hm : ds.getD i .none ∈ ds := getD_mem hlt
  have hi2 : i < es.size := by rw [S.len]; exact hlt
  have e2 : (es.toList.map (·.2)).getD i Value.none = es[i].2 := by
    rw [List.getD_eq_getElem?_getD, List.getElem?_map, Array.getElem?_toList, Array.getElem?_eq_getElem hi2]; rfl
  have e3 : es[i].1 = hashD prog w (ds.getD i .none) := by
    have := congrArg (·[i]?) S.hs
    simp only [List.getElem?_map, Array.getElem?_toList, Array.getElem?_eq_getElem hi2, e1, Option.map_some, Option.some.injEq] at this
    exact this
  rw [e2] at r
  obtain ⟨b, eb⟩ := tupk_ref (S.tk _ hm) r
  refine ⟨b, _, bs, ?_, e1, eb ▸ r⟩
  rw [Array.getElem?_eq_getElem hi2, ← e3, ← eb]
variable {A : Around} {E : Value → Shared → Prop} {s : Shared}
end
end ST
end EV
set_option Elab.async false
set_option linter.all false
set_option autoImplicit false
set_option maxRecDepth 100000
namespace EV
open PySem PySem.W PyProof.Rows
namespace ST
theorem Tb.plain {t : SetTable} {hs : List Int} (T : Tb t hs) (b : Bool) : Tb { t with plain := b } hs := ⟨T.mks, T.dm, T.up, T.len, T.le, T.few, T.way⟩
section
variable {prog : Program} {w : World} {U : List Value} {A : Around} {E : Value → Shared → Prop} {s : Shared}
end
end ST
end EV
set_option Elab.async false
set_option linter.all false
set_option autoImplicit false
set_option maxRecDepth 100000
namespace EV
open PySem PySem.W PyProof.Rows
namespace ST
mutual
theorem reads_keep {h h' : Heap} (kp : ∀ b o, o.cls = .type "tuple" → h.get? b = some o → h'.get? b = some o) : ∀ (d : PyData) (v : Value) (as : List Addr), Reads h v d as → pure0 d = true → Reads h' v d as
  | .int i, _, _, r, _ => by cases r; exact .int _ _
  | .str x, _, _, r, _ => by cases r; exact .str _ _
  | .tuple xs, _, _, r, hp => by
    cases r with
    | tuple e c q r => exact .tuple (kp _ _ c e) c q (readsAll_keep kp xs _ _ r (by simpa [pure0] using hp))
  | .none, _, _, _, hp => by simp [pure0] at hp
  | .bool _, _, _, _, hp => by simp [pure0] at hp
  | .list _, _, _, _, hp => by simp [pure0] at hp
  | .dict _, _, _, _, hp => by simp [pure0] at hp
theorem readsAll_keep {h h' : Heap} (kp : ∀ b o, o.cls = .type "tuple" → h.get? b = some o → h'.get? b = some o) : ∀ (ds : List PyData) (vs : List Value) (as : List Addr), ReadsAll h vs ds as → pures0 ds = true → ReadsAll h' vs ds as
  | [], _, _, r, _ => by cases r; exact .nil
  | d :: ds, _, _, r, hp => by
    cases r with
    | cons a1 b1 =>
      simp only [pures0, Bool.and_eq_true] at hp
      exact .cons (reads_keep kp d _ _ a1 hp.1) (readsAll_keep kp ds _ _ b1 hp.2)
end
section
variable {prog : Program} {w : World} {U : List Value}
theorem SetIs.keep {h h' : Heap} {a : Addr} {o : Obj} {es : Array (Int × Value)} {ep : Nat} {t : SetTable} {ds : List PyData} (S : SetIs prog w U h a o es ep t ds) (g : h'.get? a = some o) (kp : ∀ b o, o.cls = .type "tuple" → h.get? b = some o → h'.get? b = some o) : SetIs prog w U h' a o es ep t ds :=
  ⟨g, S.ex, S.data, S.tb, S.hs, let ⟨as, ra⟩ := S.rd; ⟨as, readsAll_keep kp ds _ _ ra S.pures⟩, S.tk, S.nd, S.led, S.room, S.src⟩
variable {A : Around} {R : Result → Shared → Prop} {I : Addr} {fp wr : List Addr} {G : Array GenState → Array GenState → Prop} {n : Nat} {P : Nat → Value → Prop} {St : Nat → Shared → Prop}
end
section
variable {prog : Program} {w : World} {U : List Value} {A : Around} {E : Value → Shared → Prop} {s : Shared}
end
end ST
end EV
set_option Elab.async false
set_option linter.all false
set_option autoImplicit false
set_option maxRecDepth 100000
namespace EV
open PySem PySem.W PyProof.Rows
namespace ST
section
variable {M : Model} {A : Around} {E : Value → Shared → Prop}
end
def IsSI (h : Heap) (I a : Addr) (first : Value) (i n ep : Nat) : Prop := ∃ o, h.get? I = some o ∧ o.cls = .type "set_iterator" ∧ o.data = .fields #[first, .int i 0, .ref a, .int n 0, .int ep 0]
theorem IsSI.typeIs {s : Shared} {I a : Addr} {first : Value} {i n ep : Nat} (x : IsSI s.heap I a first i n ep) : s.TypeIs (.ref I) "set_iterator" := let ⟨o, ho, hc, _⟩ := x; ⟨o, ho, hc⟩
def Md (w : World) (h : Heap) (a : Addr) (es : Array (Int × Value)) (ep : Nat) (t : SetTable) (ord : List Value) (i : Nat) (first : Value) : Prop :=
  (w.params.followText "set-order" = true ∧ (∃ sl : Nat, first = .int sl 0) ∧ ord = (pickOrder (w.params.setOrder a ep) es).toList.map (·.2)) ∨
  (w.params.followText "set-order" = false ∧ (!t.plain && decide (es.size > 1)) = false ∧ (∃ sl : Nat, first = .int sl 0 ∧ SetTable.below t.place sl = i) ∧ ord = es.toList.map (·.2)) ∨
  (∃ (tp : Addr) (otp : Obj) (π : List Nat) (nn : Nat), first = .ref tp ∧ h.get? tp = some otp ∧ otp.cls = .type "tuple" ∧ otp.data = .seq (π.map fun (k : Nat) => rawInt k).toArray nn ∧ π.Perm (List.range es.size) ∧ ord = π.map fun k => (es[k]?.map (·.2)).getD .none)
section
variable {prog : Program} {w : World} {U : List Value} {A : Around} {E : Value → Shared → Prop} {s : Shared}
end
end ST
end EV
set_option Elab.async false
set_option linter.all false
set_option autoImplicit false
set_option maxRecDepth 100000
namespace EV
open PySem PySem.W PyProof.Rows
namespace ST
section
variable {prog : Program} {w : World} {U : List Value} {A : Around} {E : Value → Shared → Prop} {s : Shared}
theorem Md.keep {h h2 : Heap} {a : Addr} {es : Array (Int × Value)} {ep : Nat} {t : SetTable} {ord : List Value} {i : Nat} {first : Value} (m : Md w h a es ep t ord i first) (kp : ∀ b o, o.cls = .type "tuple" → h.get? b = some o → h2.get? b = some o) : Md w h2 a es ep t ord i first := by
  rcases m with m | m | ⟨tp, otp, π, nn, e, g, c, d, r⟩
  · exact .inl m
  · exact .inr (.inl m)
  · exact .inr (.inr ⟨tp, otp, π, nn, e, kp _ _ c g, c, d, r⟩)
end
end ST
end EV
set_option Elab.async false
set_option linter.all false
set_option autoImplicit false
set_option maxRecDepth 100000
namespace EV
open PySem PySem.Spec PyProof.Rows L2
namespace ST
end ST
section
variable {X : Cx}
end
end EV
set_option Elab.async false
set_option linter.all false
set_option autoImplicit false
set_option maxRecDepth 100000
namespace EV
open PySem PySem.Spec L2
section
variable {S : PenSys} {N : Bool} {O O' Ob : List Nat}
end
end EV
set_option Elab.async false
set_option linter.all false
set_option autoImplicit false
set_option maxRecDepth 100000
namespace EV
open PySem PySem.Spec PyProof.Rows L2 PySem.W
section
variable {prog : Program} {w : World} {A : Around} {E : Value → Shared → Prop} {s : Shared} {d : Addr} {o : Obj} {es : Array DictEntry} {ep : Nat}
end
section
variable {K : Frag} {ρ : List Addr} {H : Hp}
end
section
variable {X : Cx}
end
end EV
set_option Elab.async false
set_option linter.all false
set_option autoImplicit false
set_option maxRecDepth 100000
namespace EV
open PySem PySem.Spec L2
section
variable {S : PenSys} {N : Bool} {O O' Ob : List Nat}
def tgetK (kvs : List (List Key × T)) (k : List Key) : Option T := (kvs.find? fun kv => decide (kv.1 = k)).map (·.2)
def tputK (kvs : List (List Key × T)) (k : List Key) (v : T) : List (List Key × T) :=
  if (kvs.any fun kv => decide (kv.1 = k)) = true then kvs.map (fun kv => if kv.1 = k then (kv.1, v) else kv) else kvs ++ [(k, v)]
section
variable {p : Nat} {B : Nat → Prop} {h : AH}
theorem Rdt.length : ∀ {xs : List (List Key × D)} {ts : List (List Key × T)}, Rdt p B h xs ts → xs.length = ts.length
  | _, _, .nil => rfl
  | _, _, .cons _ b => by simp [Rdt.length b]
theorem Rdt.keys : ∀ {xs : List (List Key × D)} {ts : List (List Key × T)}, Rdt p B h xs ts → xs.map (·.1) = ts.map (·.1)
  | _, _, .nil => rfl
  | _, _, .cons _ b => by simp [Rdt.keys b]
theorem Rdt.get {k : List Key} : ∀ {xs : List (List Key × D)} {ts : List (List Key × T)} {t : T}, Rdt p B h xs ts → tgetK ts k = some t → ∃ d, dget xs k = some d ∧ Rd p B h d t
  | _, _, t, .nil, e => by simp [tgetK] at e
  | _, _, t, .cons (k := k') a b, e => by
    by_cases z : k' = k
    · simp [tgetK, List.find?_cons, z] at e
      subst e
      exact ⟨_, by simp [dget, List.find?_cons, z], a⟩
    · obtain ⟨d, h1, h2⟩ := Rdt.get (k := k) (t := t) b (by simpa [tgetK, List.find?_cons, z] using e)
      exact ⟨d, by simpa [dget, List.find?_cons, z] using h1, h2⟩
theorem Rdt.anyk {k : List Key} : ∀ {xs : List (List Key × D)} {ts : List (List Key × T)}, Rdt p B h xs ts → (xs.any fun kv => decide (kv.1 = k)) = (ts.any fun kv => decide (kv.1 = k))
  | _, _, .nil => rfl
  | _, _, .cons _ b => by simp [List.any_cons, Rdt.anyk (k := k) b]
theorem Rdt.mapk {k : List Key} {x : D} {t : T} (r : Rd p B h x t) : ∀ {xs : List (List Key × D)} {ts : List (List Key × T)}, Rdt p B h xs ts → Rdt p B h (xs.map fun kv => if kv.1 = k then (kv.1, x) else kv) (ts.map fun kv => if kv.1 = k then (kv.1, t) else kv)
  | _, _, .nil => .nil
  | _, _, .cons (k := k') a b => by
    simp only [List.map_cons]
    by_cases e : k' = k
    · rw [if_pos e, if_pos e]; exact .cons r (Rdt.mapk r b)
    · rw [if_neg e, if_neg e]; exact .cons a (Rdt.mapk r b)
theorem Rdt.app : ∀ {xs : List (List Key × D)} {ts : List (List Key × T)} {xs' : List (List Key × D)} {ts' : List (List Key × T)}, Rdt p B h xs ts → Rdt p B h xs' ts' → Rdt p B h (xs ++ xs') (ts ++ ts')
  | _, _, _, _, .nil, s => s
  | _, _, _, _, .cons a b, s => .cons a (Rdt.app b s)
theorem Rdt.put {k : List Key} {x : D} {t : T} (r : Rd p B h x t) {xs : List (List Key × D)} {ts : List (List Key × T)} (rk : Rdt p B h xs ts) : Rdt p B h (dput xs k x) (tputK ts k t) := by
  unfold dput tputK
  rw [rk.anyk (k := k)]
  split
  · exact rk.mapk r
  · exact rk.app (.cons r .nil)
end
end
end EV
set_option Elab.async false
set_option linter.all false
set_option autoImplicit false
set_option maxRecDepth 100000
namespace L2
open PySem PySem.Spec PyProof.Rows
end L2
set_option Elab.async false
set_option linter.all false
set_option autoImplicit false
set_option maxRecDepth 100000
namespace L2
open PySem PySem.Spec PyProof.Rows
section
variable {X : Cx}
end
section
variable {prog : Program} {w : World} {A : Around} {R : Result → Shared → Prop} {s : Shared} {elt t0 i0 t1 i1 t2 i2 : Expr} {ifs0 ifs1 ifs2 : List Expr} {scope : Scope} {pos : Pos} {acc : Value} {env : Env}
end
section
variable {X : Cx} {elt t0 i0 t1 i1 t2 i2 : Expr} {ifs0 ifs1 ifs2 : List Expr} {scope : Scope} {own : List (Str × Nat)} {vs1 vs2 : List Nat} {pos : Pos} {wi wi1 wi2 : TI} {g g1 g2 : TG} {tt tt1 tt2 : TT} {te : TE}
end
end L2
set_option Elab.async false
set_option linter.all false
set_option autoImplicit false
set_option maxRecDepth 100000
namespace EV
open PySem PySem.Spec PyProof.Rows L2
section
variable {X : Cx} {t0 : Expr}
end
end EV
set_option Elab.async false
set_option linter.all false
set_option autoImplicit false
set_option maxRecDepth 100000
namespace EV
open PySem PySem.Spec L2
section
variable {S : PenSys} {N : Bool} {O O' Ob : List Nat}
end
end EV
set_option Elab.async false
set_option linter.all false
set_option autoImplicit false
set_option maxRecDepth 100000
namespace EV
open PySem PySem.Spec PyProof.Rows L2
section
variable {X : Cx}
def strsD : List D → Option (List Str)
  | [] => some []
  | .str x :: r => (strsD r).map (x :: ·)
  | _ => none
inductive SEs (X : Cx) : List Expr → List EF → Prop
  | nil : SEs X [] []
  | cons {e : Expr} {f : EF} {es : List Expr} {fs : List EF} : SE X e f → SEs X es fs → SEs X (e :: es) (f :: fs)
end
end EV
set_option Elab.async false
set_option linter.all false
set_option autoImplicit false
set_option maxRecDepth 100000
namespace EV
open PySem PySem.Spec L2
section
variable {S : PenSys} {N : Bool} {O O' Ob : List Nat}
def strsT : List T → Option (List Str)
  | [] => some []
  | .str x :: r => (strsT r).map (x :: ·)
  | _ => none
theorem Rds.strs {p : Nat} {B : Nat → Prop} {h : AH} : ∀ {ds : List D} {ts : List T} {ys : List Str}, Rds p B h ds ts → strsT ts = some ys → strsD ds = some ys
  | _, _, _, .nil, e => by cases e; rfl
  | _, _, ys, .cons a b, e => by
    cases a with
    | str x =>
      simp only [strsT, Option.map_eq_some_iff] at e
      obtain ⟨zs, h1, rfl⟩ := e
      simp only [strsD, Rds.strs b h1, Option.map_some]
    | _ => simp [strsT] at e
inductive JEs (S : PenSys) (O : List Nat) : List EF → List WE → Prop
  | nil : JEs S O [] []
  | cons {f : EF} {φ : WE} {fs : List EF} {φs : List WE} : JE S O f φ → JEs S O fs φs → JEs S O (f :: fs) (φ :: φs)
end
end EV
set_option Elab.async false
set_option linter.all false
set_option autoImplicit false
set_option maxRecDepth 100000
namespace EV
open PySem PySem.Spec PyProof.Rows L2
section
variable {prog : Program} {w : World} {A : Around} {E : Value → Shared → Prop} {s : Shared} {l : Addr} {xs : Array (Int × Tok)} {Q : Value → Shared → Prop}
end
section
variable {X : Cx}
end
end EV
set_option Elab.async false
set_option linter.all false
set_option autoImplicit false
set_option maxRecDepth 100000
namespace EV
open PySem PySem.Spec L2
section
variable {S : PenSys}
end
end EV
set_option Elab.async false
set_option linter.all false
set_option autoImplicit false
set_option maxRecDepth 100000
namespace EV
open PySem PySem.Spec PyProof.Rows L2
structure XFind (K : PySem.W.Frag) (C : Addr) : Prop where
  ga : PySem.W.findIn K (.ref C) "__getattribute__" = some (some (.builtin "BaseException.__getattribute__"))
  gh : PySem.W.findIn K (.ref C) "__getattr__" = some none
  be : PySem.W.mroIn K C (.type "BaseException") = some true
  ob : PySem.W.mroIn K C (.type "object") = some true
  cl : PySem.W.findIn K (.ref C) "__class__" = some (some (.builtin "object.__class__"))
  gg : PySem.W.specialIn K (.builtin "object.__class__") "__get__" = some (some (.builtin "getset_descriptor.__get__"))
  tk : PySem.W.takesIn K (.builtin "object.__class__") = some true
  hd : PySem.W.hasDictIn K C = true
def XAt (h : Heap) (x C : Addr) : Prop := ∃ ox, h.get? x = some ox ∧ ox.cls = .ref C
theorem XAt.type {M : Model} {h : Heap} {x C : Addr} (I : XAt h x C) : PySem.W.Looks M h (typeOf (.ref x)) (.ref C) := by
  obtain ⟨ox, h1, h2⟩ := I
  exact h2 ▸ (PySem.W.Looks.ld h1).andThen .now
section
variable {prog : Program} {w : World} {A : Around} {E : Value → Shared → Prop} {s : Shared} {K : PySem.W.Frag} {x C : Addr} {ox : Obj} {od : Option Obj} {name : Str} {t : Tok} {fill expr : Bool} {Q : Value → Shared → Prop}
theorem xga_open (X : K.In s.heap) (I : XAt s.heap x C) (F : XFind K C)
    (h : codeAny (model prog w) A (.call (.builtin "BaseException.__getattribute__") ⟨[.ref x, .str name t], []⟩) (fun r s' => match r with | .ok (.ret v) => wpAny (model prog w) A (handedOut v) Q E s' | _ => False) s) :
    wpAny (model prog w) A (getAttrBy (.ref x) (.str name t) fill expr) Q E s := by
  obtain ⟨hh, g, d, tk, os⟩ := s
  have L0 := I.type (M := model prog w)
  have L1 := PySem.W.looks_findIn (M := model prog w) X F.ga
  have L2 := PySem.W.looks_findIn (M := model prog w) X F.gh
  have nx : (onTheHeap (Value.ref C) && Value.builtin "BaseException.__getattribute__" == Value.builtin "object.__getattribute__") = false := by rw [show (Value.builtin "BaseException.__getattribute__" == Value.builtin "object.__getattribute__") = false by decide +kernel, Bool.and_false]
  have ne : (expr && onTheHeap (Value.builtin "BaseException.__getattribute__")) = false := by cases expr <;> rfl
  unfold getAttrBy
  refine wpAny_holding (wpAny_bind (L0.at (wpAny_bind (L1.at ?_))))
  show wpAny _ _ (if (onTheHeap (Value.ref C) && Value.builtin "BaseException.__getattribute__" == Value.builtin "object.__getattribute__") = true then _ else _) _ _ _
  rw [if_neg (by rw [nx]; decide)]
  unfold getAttrByItsOwn hookBefore
  refine wpAny_bind ?_
  rw [if_pos (show onTheHeap (Value.ref C) = true from rfl)]
  refine L2.at (wpAny_bind (wpAny_attempt ?_))
  refine wpAny_holding ?_
  unfold callGetattribute
  rw [if_neg (by rw [ne]; decide)]
  unfold boundAndCalled
  refine wpAny_bind ?_
  rw [PySem.F.attr_ValueError.ga.bind]
  refine wpAny_pure (wpAny_call (codeAny_mono h fun r s' z => ?_))
  cases r with
  | error e => exact z.elim
  | ok f => cases f with
    | ret v => exact z
    | _ => exact z.elim
theorem xga_value {R : Result → Shared → Prop} {v : Value} (X : K.In s.heap) (I : PySem.W.InstAt s.heap x ox C od) (F : XFind K C) (hf : PySem.W.findObj K C od name = some (.value v)) (h : R (.ok (.ret v)) s) :
    codeAny (model prog w) A (.call (.builtin "BaseException.__getattribute__") ⟨[.ref x, .str name t], []⟩) R s := by
  have sub : PySem.W.Looks (model prog w) s.heap (isInstance (.ref x) (.type "BaseException")) true := I.type.andThen (PySem.W.looks_mroIn X F.be)
  have k1 : builtinKind "BaseException.__getattribute__" = some .slot := by decide +kernel
  have k2 : splitId "BaseException.__getattribute__" = some ("BaseException", "__getattribute__") := by decide +kernel
  refine codeAny_call_builtin PySem.F.attr_ValueError.ga.plain PySem.F.entry_bexc_ga (@PySem.W.check_slot (model prog w) _ _ s "BaseException.__getattribute__" "BaseException" "__getattribute__" (.ref x) [.str name t] [] _ k1 k2 sub (PySem.F.args_bexc_ga _ _) ?_)
  obtain ⟨hh, g, d, tk, os⟩ := s
  have L0 := I.type (M := model prog w)
  have L1 := PySem.W.looks_find (M := model prog w) X I hf
  unfold Builtin.«object.__getattribute__»
  refine wpAny_bind (wpAny_pure (wpAny_bind (wpAny_pure (wpAny_bind (L0.at (wpAny_bind (L1.at ?_)))))))
  exact wpAny_pure h
theorem xga_look {M : Model} {h : Heap} (X : K.In h) (F : XFind K C) : PySem.W.Looks M h (Builtin.ObjectAttr.find (.ref x) (.ref C) "__class__") (.bind (.builtin "getset_descriptor.__get__") (.builtin "object.__class__")) := by
  have D : PySem.W.Looks M h (Builtin.ObjectAttr.dataDescriptor? (some (Value.builtin "object.__class__")) (some (Value.builtin "getset_descriptor.__get__"))) (some (Value.builtin "getset_descriptor.__get__", Value.builtin "object.__class__")) := by
    refine (PySem.W.looks_takesIn X F.tk).andThen ?_
    exact .now
  refine (PySem.W.looks_findIn X F.cl).andThen ((PySem.W.looks_specialIn X F.gg).andThen (D.andThen ?_))
  exact PySem.W.Looks.tag .now
theorem xcls_get {R : Result → Shared → Prop} {tp : Value} (X : K.In s.heap) (I : XAt s.heap x C) (hm : PySem.W.mroIn K C (.type "object") = some true) (h : R (.ok (.ret (.ref C))) s) :
    codeAny (model prog w) A (.call (.builtin "getset_descriptor.__get__") ⟨[.builtin "object.__class__", .ref x, tp], []⟩) R s := by
  obtain ⟨hh, g, dr, t, os⟩ := s
  have L0 := I.type (M := model prog w)
  have L1 := PySem.W.looks_mroIn (M := model prog w) X hm
  refine codeAny_call_builtin PySem.W.KF.slot_gs.plain PySem.W.KF.entry_gs (PySem.W.KF.slot_gs.check _ _ _ _ _ _ _ _ PySem.W.KF.type_class (PySem.W.KF.args_gs _ _ _) ?_)
  unfold Builtin.«getset_descriptor.__get__» Builtin.Getset_descriptor.descrGet; rw [PySem.W.dga_obj]; refine wpAny_bind (wpAny_pure ?_)
  unfold Builtin.Getset_descriptor.descrGetter Builtin.Getset_descriptor.descrCheckInstance Builtin.Getset_descriptor.descrNameAndClass isInstance; simp only [PySem.W.KF.owner_class]
  repeat lk
  refine ⟨Code.quiet_builtin _ (by decide +kernel), codeAny_builtin PySem.W.KF.entry_class ?_⟩; unfold Builtin.«object.__class__» shownTypeOf
  repeat lk
  exact h
theorem xga_class {R : Result → Shared → Prop} (X : K.In s.heap) (I : XAt s.heap x C) (F : XFind K C) (h : R (.ok (.ret (.ref C))) s) :
    codeAny (model prog w) A (.call (.builtin "BaseException.__getattribute__") ⟨[.ref x, .str "__class__" t], []⟩) R s := by
  have sub : PySem.W.Looks (model prog w) s.heap (isInstance (.ref x) (.type "BaseException")) true := I.type.andThen (PySem.W.looks_mroIn X F.be)
  have k1 : builtinKind "BaseException.__getattribute__" = some .slot := by decide +kernel
  have k2 : splitId "BaseException.__getattribute__" = some ("BaseException", "__getattribute__") := by decide +kernel
  refine codeAny_call_builtin PySem.F.attr_ValueError.ga.plain PySem.F.entry_bexc_ga (@PySem.W.check_slot (model prog w) _ _ s "BaseException.__getattribute__" "BaseException" "__getattribute__" (.ref x) [.str "__class__" t] [] _ k1 k2 sub (PySem.F.args_bexc_ga _ _) ?_)
  have L0 := I.type (M := model prog w)
  have L1 := xga_look (x := x) (M := model prog w) X F
  unfold Builtin.«object.__getattribute__»
  refine wpAny_bind (wpAny_pure (wpAny_bind (wpAny_pure (wpAny_bind (L0.here (wpAny_bind (L1.here ?_)))))))
  show wpAny _ _ (Builtin.ObjectAttr.bindTo _ _ _ _) _ _ _
  unfold Builtin.ObjectAttr.bindTo
  show wpAny _ _ (holding [Value.builtin "object.__class__"] (call (Value.builtin "getset_descriptor.__get__") [Value.builtin "object.__class__", Value.ref x, Value.ref C]) >>= ret) _ _ _
  exact wpAny_bind (wpAny_holding (wpAny_call (xcls_get X I F.ob (wpAny_pure h))))
theorem xga_class? {Q : Option Value → Shared → Prop} (X : K.In s.heap) (I : XAt s.heap x C) (F : XFind K C) (h : Q (some (.ref C)) { s with toks := s.toks + 1 }) :
    wpAny (model prog w) A (getAttr? (.ref x) "__class__") Q E s := by
  obtain ⟨hh, g, d, tk, os⟩ := s
  unfold getAttr? getAttrBy?
  refine wpAny_bind (wpAny_mkText (wpAny_bind (wpAny_attempt ?_)))
  refine xga_open (s := ⟨hh, g, d, tk + 1, os⟩) X I F (xga_class (s := ⟨hh, g, d, tk + 1, os⟩) X I F ?_)
  show wpAny _ _ (handedOut (.ref C)) _ _ _
  exact wpAny_pure (wpAny_pure h)
theorem kitx_exc (F : XFind K C) : PySem.W.KitX K (.ref x) (.ref C) (fun h => XAt h x C) where
  ty := fun _ _ _ I => I.type
  it := fun _ _ X _ => by
    obtain ⟨cdD, hcD, _⟩ := PySem.W.any_some F.hd
    intro A' Q' E' s' k q
    unfold PySem.W.clsIn at hcD
    split at hcD
    · rename_i ho
      unfold isType loadHead
      exact wpAny_bind (wpAny_loadPart (k _ _ (X _ _ ho)) (wpAny_pure q))
    · cases hcD
  ne := fun h tp dd its n sl X htp => by
    obtain ⟨cdD, hcD, _⟩ := PySem.W.any_some F.hd
    cases q : ((Value.ref C) == (Value.ref tp)) with
    | false => rfl
    | true =>
      cases Value.ref.inj (beq_iff_eq.mp q)
      unfold PySem.W.clsIn at hcD
      split at hcD
      · rename_i ho
        cases (X _ _ ho).symm.trans htp
      · cases hcD
  ca := fun X I k => xga_class? X I F k
end
end EV
set_option Elab.async false
set_option linter.all false
set_option autoImplicit false
set_option maxRecDepth 100000
namespace EV
open PySem PySem.Spec PyProof.Rows L2
section
variable {X : Cx}
inductive TyX (K : PySem.W.Frag) (H : Hp) : V → Value → Prop where
  | non : TyX K H .non (.type "NoneType")
  | exc {a C : Addr} {n f : Str} {ys : List V} (e : ExA K H a n f ys) (hn : PySem.W.nsIn K mainGlobals n = some (some (.ref C))) (F : XFind K C) : TyX K H (.ref a) (.ref C)
theorem ExA.inst {pins : List (Addr × Obj)} {σ : L2.St} {H : Hp} {s : Shared} {a C : Addr} {n f : Str} {ys : List V} (I : Inv X pins σ H s) (e : ExA X.K H a n f ys) (hn : PySem.W.nsIn X.K mainGlobals n = some (some (.ref C))) : XAt s.heap a C := by
  obtain ⟨oe, C', h1, h2, h3, h4, h5⟩ := e
  rw [hn] at h2
  cases h2
  obtain ⟨g1, _⟩ := (show ObjOk X.prog X.w H s.heap a (.frz oe (.own a)) from I.hok a _ h1)
  exact ⟨oe, g1, h3⟩
def rIsX (K : PySem.W.Frag) : List V → Hp → VK → Prop := fun xs H Q => ∃ x cv t b, xs = [x, cv] ∧ TyX K H x t ∧ Q (.bl b) H ∧
  ((∃ C, cv = .ref C ∧ PySem.W.kitOne K t (.ref C) = some b) ∨ (∃ T, cv = .ty T ∧ PySem.W.kitOne K t (.type T) = some b) ∨
    ∃ (p : Addr) (Cs : List Addr), cv = .ref p ∧ H p = some (.tup (Cs.map V.ref)) ∧ PySem.W.kitAny K t (Cs.map Value.ref) = some b)
theorem refs_vals : ∀ {Cs : List Addr} {us : List Value}, Vals (Cs.map V.ref) us → us = Cs.map Value.ref
  | [], _, r => by cases r; rfl
  | c :: cs, _, r => by
    cases r with
    | cons a b =>
      have e := refs_vals b
      subst e
      cases (show _ = Value.ref c from a)
      rfl
theorem call_isX : CallR X (.builtin "isinstance") (rIsX X.K) := by
  intro pins s σ H xs us Q I r h
  obtain ⟨x, cv, t, b, rfl, ty, q, hc⟩ := h
  obtain ⟨u, w', rfl, ru, rw'⟩ := vals2 r
  have fin : ∀ tk, EP X pins σ Q (.bool b) { s with toks := tk } := fun tk => ⟨.bl _, H, I.tok tk, rfl, q⟩
  have main : ∀ {P : Heap → Prop}, PySem.W.KitX X.K u t P → P s.heap → u ≠ .builtin "__main__.__loader__#opaque" → wpAny (model X.prog X.w) X.A (call (.builtin "isinstance") [u, w']) (EP X pins σ Q) X.xe s := fun {P} Z p nu => by
    rcases hc with ⟨C, rfl, e⟩ | ⟨T, rfl, e⟩ | ⟨p', Cs, rfl, hp, e⟩
    · cases (show w' = Value.ref C from rw')
      exact PySem.W.kia_one Z I.kIn p e nu fin
    · cases (show w' = Value.type T from rw')
      exact PySem.W.kia_one Z I.kIn p e nu fin
    · cases (show w' = Value.ref p' from rw')
      obtain ⟨_, its, rv, ⟨o, h1, h2, n, h3⟩, o2, h4, h5⟩ := (show ObjOk X.prog X.w H s.heap p' (.tup (Cs.map V.ref)) from I.hok p' _ hp)
      have := refs_vals rv
      subst this
      rw [h1] at h4; cases h4
      obtain ⟨oc, odd, oda, osl⟩ := o
      dsimp only at h2 h3 h5
      subst h2 h3 h5
      exact PySem.W.kia_tup Z I.kIn p h1 e nu fin
  cases ty with
  | non => cases (show u = Value.none from ru); exact main PySem.W.kitx_none True.intro (fun z => nomatch z)
  | exc e hn F =>
    cases (show u = Value.ref _ from ru)
    exact main (kitx_exc F) (e.inst I hn) (fun z => nomatch z)
def isxD (tab : List (Str × Bool)) (x : D) : Option Bool := match x with
  | .non => some false
  | .exc n _ _ => tab.lookup n
  | _ => none
def eIsX (tab : List (Str × Bool)) (f : EF) : EF := fun σ h => (f σ h).bind fun x h1 => match isxD tab x with | some b => .ok (.bl b) h1 | none => .bad
structure XIs1 (K : PySem.W.Frag) (v : Value) (tab : List (Str × Bool)) : Prop where
  non : PySem.W.kitOne K (.type "NoneType") v = some false
  exc : ∀ n b, tab.lookup n = some b → ∃ C, PySem.W.nsIn K mainGlobals n = some (some (.ref C)) ∧ XFind K C ∧ PySem.W.kitOne K (.ref C) v = some b
structure XIsA (K : PySem.W.Frag) (vs : List Value) (tab : List (Str × Bool)) : Prop where
  non : PySem.W.kitAny K (.type "NoneType") vs = some false
  exc : ∀ n b, tab.lookup n = some b → ∃ C, PySem.W.nsIn K mainGlobals n = some (some (.ref C)) ∧ XFind K C ∧ PySem.W.kitAny K (.ref C) vs = some b
theorem isxD_ty {K : PySem.W.Frag} {ρ : List Addr} {H : Hp} {x : D} {v : V} (r : RV K ρ H x v) {tab : List (Str × Bool)} {b : Bool} (e : isxD tab x = some b) {P : Value → Prop}
    (p0 : b = false → P (.type "NoneType")) (p1 : ∀ n, tab.lookup n = some b → ∃ C, PySem.W.nsIn K mainGlobals n = some (some (.ref C)) ∧ XFind K C ∧ P (.ref C)) : ∃ t, TyX K H v t ∧ P t := by
  cases r with
  | non => cases e; exact ⟨_, .non, p0 rfl⟩
  | exc h _ =>
    obtain ⟨C, h1, h2, h3⟩ := p1 _ e
    exact ⟨_, .exc h h1 h2, h3⟩
  | bl _ => cases e
  | int _ => cases e
  | str _ => cases e
  | tup _ _ => cases e
  | fz _ _ => cases e
  | ref _ => cases e
theorem pe_cls {x : Str} {C : Addr} {pos : Pos} (hg : Gl X x) (hm : X.mg x = some (.ref C)) (hd : (x == ("__debug__" : Str)) = false := by decide +kernel) : PE X (.Name x pos) (tC (.ref C)) :=
  fun _ _ _ H _ I h => ld_glob I hg hm ⟨.ref C, H, I, rfl, h⟩ hd
theorem se_isX {e : Expr} {f : EF} {cn : Str} {C : Addr} {p p2 pos : Pos} {tab : List (Str × Bool)} (hm : X.mg "isinstance" = none) (hm2 : X.mg cn = some (.ref C)) (T : XIs1 X.K (.ref C) tab) (ha : SE X e f) (hg : Gl X "isinstance" := by rfl) (hg2 : Gl X cn := by rfl) (hd : (cn == ("__debug__" : Str)) = false := by decide +kernel)
    (he : starEach [e, .Name cn p2] X.env = (false, eval e X.env) :: starEach [.Name cn p2] X.env := by rfl) (he2 : starEach [.Name cn p2] X.env = (false, eval (.Name cn p2) X.env) :: starEach [] X.env := by rfl) (hpl : (backTo pos (starEach [.Name cn p2] X.env)).any (·.1) = false := by rfl) : SE X (.Call (.Name "isinstance" p) [e, .Name cn p2] [] pos) (eIsX tab f) :=
  ⟨PE.of (pe_callB call_isX hg hm (by decide +kernel) (pa_cons ha.out (pa_cons (pe_cls hg2 hm2 hd) pa_nil he2) he) (by decide +kernel) (by decide +kernel) he hpl) fun σ H Q q => by
  obtain ⟨ρ, σa, h, v, h', rh, rs, e, k⟩ := q
  obtain ⟨x, h1, e1, e⟩ := bind_eq e
  refine ⟨ρ, σa, h, x, h1, rh, rs, e1, fun ρ1 x' H1 p1 rh1 rx => ?_⟩
  split at e
  · rename_i b eb
    cases e
    obtain ⟨t, ty, hk⟩ := isxD_ty rx eb (P := fun t => PySem.W.kitOne X.K t (.ref C) = some b) (fun z => by rw [z]; exact T.non) (fun n hn => T.exc n b hn)
    exact ⟨x', .ref C, t, b, rfl, ty, k ρ1 _ H1 p1 rh1 (.bl _), .inl ⟨C, rfl, hk⟩⟩
  · cases e⟩
theorem se_isB {e : Expr} {f : EF} {cn : Str} {B : String} {p p2 pos : Pos} {tab : List (Str × Bool)} (hm : X.mg "isinstance" = none) (hm2 : X.mg cn = none) (T : XIs1 X.K (.type B) tab) (ha : SE X e f) (hb : bootBuiltins cn = some (.type B) := by decide +kernel) (hg : Gl X "isinstance" := by rfl) (hg2 : Gl X cn := by rfl) (hn : cn ≠ "__name__" := by decide +kernel) (hd : (cn == ("__debug__" : Str)) = false := by decide +kernel)
    (he : starEach [e, .Name cn p2] X.env = (false, eval e X.env) :: starEach [.Name cn p2] X.env := by rfl) (he2 : starEach [.Name cn p2] X.env = (false, eval (.Name cn p2) X.env) :: starEach [] X.env := by rfl) (hpl : (backTo pos (starEach [.Name cn p2] X.env)).any (·.1) = false := by rfl) : SE X (.Call (.Name "isinstance" p) [e, .Name cn p2] [] pos) (eIsX tab f) :=
  ⟨PE.of (pe_callB call_isX hg hm (by decide +kernel) (pa_cons ha.out (pa_cons (pe_bltn hg2 hm2 hb (v := .ty B) rfl hn hd) pa_nil he2) he) (by decide +kernel) (by decide +kernel) he hpl) fun σ H Q q => by
  obtain ⟨ρ, σa, h, v, h', rh, rs, e, k⟩ := q
  obtain ⟨x, h1, e1, e⟩ := bind_eq e
  refine ⟨ρ, σa, h, x, h1, rh, rs, e1, fun ρ1 x' H1 p1 rh1 rx => ?_⟩
  split at e
  · rename_i b eb
    cases e
    obtain ⟨t, ty, hk⟩ := isxD_ty rx eb (P := fun t => PySem.W.kitOne X.K t (.type B) = some b) (fun z => by rw [z]; exact T.non) (fun n hn => T.exc n b hn)
    exact ⟨x', .ty B, t, b, rfl, ty, k ρ1 _ H1 p1 rh1 (.bl _), .inr (.inl ⟨B, rfl, hk⟩)⟩
  · cases e⟩
inductive ClsE (X : Cx) : List Expr → List Addr → Prop
  | nil : ClsE X [] []
  | cons {x : Str} {C : Addr} {pos : Pos} {es : List Expr} {Cs : List Addr} : Gl X x → X.mg x = some (.ref C) → (x == ("__debug__" : Str)) = false → starEach (.Name x pos :: es) X.env = (false, eval (.Name x pos) X.env) :: starEach es X.env → ClsE X es Cs → ClsE X (.Name x pos :: es) (C :: Cs)
def tCs (vs : List V) : TA := fun _ H Q => Q vs H
theorem pa_cls : ∀ {es : List Expr} {Cs : List Addr}, ClsE X es Cs → PA X es (tCs (Cs.map V.ref))
  | _, _, .nil => pa_nil
  | _, _, .cons hg hm hd hs r => pa_cons (pe_cls hg hm hd) (pa_cls r) hs
theorem se_isT {x1} {e : Expr} {f : EF} {cs : List Expr} {Cs : List Addr} {p p2 pos : Pos} {tab : List (Str × Bool)} (hm : X.mg "isinstance" = none) (T : XIsA X.K (Cs.map Value.ref) tab) (hl : Cs.length ≤ 9) (hcs : ClsE X cs Cs) (ha : SE X e f) (hg : Gl X "isinstance" := by rfl)
    (he : starEach [e, .Tuple cs x1 p2] X.env = (false, eval e X.env) :: starEach [.Tuple cs x1 p2] X.env := by rfl) (he2 : starEach [.Tuple cs x1 p2] X.env = (false, eval (.Tuple cs x1 p2) X.env) :: starEach [] X.env := by rfl) (hpl : (backTo pos (starEach [.Tuple cs x1 p2] X.env)).any (·.1) = false := by rfl) : SE X (.Call (.Name "isinstance" p) [e, .Tuple cs x1 p2] [] pos) (eIsX tab f) :=
  ⟨PE.of (pe_callB call_isX hg hm (by decide +kernel) (pa_cons ha.out (pa_cons (pe_tup (pa_cls hcs)) pa_nil he2) he) (by decide +kernel) (by decide +kernel) he hpl) fun σ H Q q => by
  obtain ⟨ρ, σa, h, v, h', rh, rs, e, k⟩ := q
  obtain ⟨x, h1, e1, e⟩ := bind_eq e
  refine ⟨ρ, σa, h, x, h1, rh, rs, e1, fun ρ1 x' H1 p1 rh1 rx => ?_⟩
  split at e
  · rename_i b eb
    cases e
    refine ⟨by rw [List.length_map, sizeLine_eq]; omega, fun p hp => ?_⟩
    have p2 : Ext X.K ρ1 H1 ρ1 (upd H1 p (.tup (Cs.map V.ref))) := Ext.upd (.inl hp)
    obtain ⟨t, ty, hk⟩ := isxD_ty (rx.up p2) eb (P := fun t => PySem.W.kitAny X.K t (Cs.map Value.ref) = some b) (fun z => by rw [z]; exact T.non) (fun n hn => T.exc n b hn)
    exact ⟨x', .ref p, t, b, rfl, ty, k ρ1 _ _ (p1.trans p2) (rh1.laid hp) (.bl _), .inr (.inr ⟨p, Cs, rfl, L2.upd_same, hk⟩)⟩
  · cases e⟩
end
end EV
set_option Elab.async false
set_option linter.all false
set_option autoImplicit false
set_option maxRecDepth 100000
namespace EV
open PySem PySem.Spec PyProof.Rows L2
section
variable {X : Cx} {pins : List (Addr × Obj)} {σ : L2.St} {H : Hp} {s : Shared}
theorem Inv.gone (I : Inv X pins σ H s) (hN : X.N.Nodup) {i : Nat} {x : Str} (hi : X.N[i]? = some x) (hk : X.env.scope.names.lookup x = some .local) {m : Str → Option Value} (hn : s.heap.Ns X.env.locals m) {h' : Heap} {v : Option Value} {t' : Nat}
    (hn' : h'.Ns X.env.locals (fun y => if y = x then v else m y)) (hs : Heap.SameBut X.env.locals s.heap h') : Inv X pins (σ.set i none) H { s with heap := h', toks := t' } := by
  obtain ⟨m0, hn0, hl⟩ := id I.loc
  have em : m0 = m := funext fun y => by
    obtain ⟨o, es, ep, a1, a2, a3, a4⟩ := hn0
    obtain ⟨o', es', ep', b1, b2, b3, b4⟩ := hn
    rw [a1] at b1; cases b1
    rw [a2] at b2; cases b2
    rw [← a4, ← b4]
  subst em
  obtain ⟨oL, _, _, hoL, _⟩ := id hn
  have far : ∀ b o, X.s_0.heap.get? b = some o → b ≠ X.env.locals := fun b o e => Nat.ne_of_lt (Nat.lt_of_lt_of_le (Heap.lt_size e) I.ok.above)
  refine ⟨I.ok, I.os, I.bare, ⟨fun b o e n hb hx => (hs.2 b (far b o e)).trans (I.base.keep b o e n hb hx), fun b o e n hb hx => ?_, I.base.free, fun b o e hx => ?_, I.base.tups, I.base.frzs, I.base.tbls⟩, ⟨_, hn', fun j y v' e1 e2 e3 => ?_⟩, fun y c e => ?_, I.free, I.freeC, fun p hp => ?_, fun b ob e => ?_, by simpa using I.len⟩
  · obtain ⟨sl, e1⟩ := I.base.slot b o e n hb hx
    exact ⟨sl, (hs.2 b (far b o e)).trans e1⟩
  · obtain ⟨o', e1⟩ := I.base.there b o e hx
    exact ⟨o', (hs.2 b (far b o e)).trans e1⟩
  · by_cases hj : j = i
    · subst hj
      have hiσ : j < σ.length := by rw [I.len]; exact (List.getElem?_eq_some_iff.mp hi).1
      rw [List.getElem?_set_self hiσ] at e2
      cases e2
    · rw [List.getElem?_set_ne (Ne.symm hj)] at e2
      obtain ⟨u', r', q⟩ := hl j y v' e1 e2 e3
      refine ⟨u', r', ?_⟩
      rcases q with ⟨k, e⟩ | ⟨k, c, e, z⟩
      · have ne : y ≠ x := fun z => hj (nodup_ix hN e1 (z ▸ hi))
        exact .inl ⟨k, by simp [ne, e]⟩
      · exact .inr ⟨k, c, e, z.sameBut hs (I.cne y c e)⟩
  · obtain ⟨w', z⟩ := I.cell y c e
    exact ⟨w', z.sameBut hs (I.cne y c e)⟩
  · obtain ⟨e, n, ne, nf, d⟩ := I.pin p hp
    exact ⟨(hs.2 p.1 ne).trans e, n, ne, nf, d⟩
  · refine (I.hok b ob e).stay (fun c w' hc q => (hs.2 c ?_).trans q) (fun _ q => q) fun _ _ q => q
    rintro rfl
    have fr := I.free
    rcases hc with rfl | hc
    · rw [fr] at e; cases e
    · rw [fr] at hc; cases hc
theorem Inv.adopt (I : Inv X pins σ H s) {a : Addr} (y : Addr) {o : Obj} (hn : H a = none) (hg : s.heap.get? a = some o) (h0 : X.s_0.heap.get? a = none) (hl : a ≠ X.env.locals) (hc : ∀ x c, X.env.cells.lookup x = some c → c ≠ a) (hp : ∀ p ∈ X.pn ++ pins, p.1 ≠ a) :
    Inv X pins σ (upd H a (.frz o (.own y))) s := by
  have ne : ∀ b u, H b = some u → b ≠ a := fun b u e z => by rw [z, hn] at e; cases e
  refine ⟨I.ok, I.os, I.bare, ⟨I.base.keep, I.base.slot, fun b o e n hx => ?_, I.base.there, fun b xs e => ?_, fun b u v e => ?_, fun b ps e => ?_⟩, I.loc, I.cell, ?_, fun x c e => ?_, fun p hpp => ?_, fun b ob e => ?_, I.len⟩
  · rw [L2.upd_ne (fun z => by rw [z, h0] at e; cases e)]; exact I.base.free b o e n hx
  · have := I.base.tups b xs e; rw [L2.upd_ne (ne _ _ this)]; exact this
  · have := I.base.frzs b u v e; rw [L2.upd_ne (ne _ _ this)]; exact this
  · obtain ⟨more, this⟩ := I.base.tbls b ps e; exact ⟨more, by rw [L2.upd_ne (ne _ _ this)]; exact this⟩
  · rw [L2.upd_ne (Ne.symm hl)]; exact I.free
  · rw [L2.upd_ne (hc x c e)]; exact I.freeC x c e
  · obtain ⟨e, n, q⟩ := I.pin p hpp
    exact ⟨e, by rw [L2.upd_ne (hp p hpp)]; exact n, q⟩
  · by_cases hb : b = a
    · subst hb
      rw [L2.upd_same] at e
      cases e
      exact ⟨hg, o, hg⟩
    · rw [L2.upd_ne hb] at e
      exact (I.hok b ob e).stay (fun _ _ _ q => q) (fun c q => by rw [L2.upd_ne (ne _ _ q)]; exact q) fun c u q => by rw [L2.upd_ne (ne _ _ q)]; exact q
end
theorem fly_keep {base h h' : Heap} {l : List Env} {e : Addr} {cls a0 : Value} (f : Heap.FlyingW base l e cls a0 h) (k : ∀ b o, h.get? b = some o → h'.get? b = some o) : Heap.FlyingW base l e cls a0 h' := by
  obtain ⟨f1, f2, f3, oe, vs, T, oT, ts, g1, g2, g3, g4, g5, g6, g7, g8, g9⟩ := f
  exact ⟨fun b o q => k b o (f1 b o q), f2, f3.of_keeps fun b o q _ => ⟨o, k b o q, rfl⟩, oe, vs, T, oT, ts, k _ _ g1, g2, g3, g4, g5, g6, k _ _ g7, g8, g9⟩
section
variable {X : Cx}
theorem names_ok {E : Value → Shared → Prop} {pins : List (Addr × Obj)} {σ : L2.St} {H : Hp} {s : Shared} (I : Inv X pins σ H s) {pos : Pos} : ∀ {es : List Expr} {Cs : List Addr} {Q : List Value → Shared → Prop}, ClsE X es Cs → Q (Cs.map Value.ref) s → wpAny (model X.prog X.w) X.A (spliced (backTo pos (starEach es X.env))) Q E s
  | _, _, _, .nil, h => Calls.spliced_nil h
  | _, _, _, .cons (x := x) (pos := np) (es := es) hg hm hd hs r, h => by
    rw [hs]
    show wpAny _ _ (spliced ((false, eval (.Name x np) X.env) :: backTo pos (starEach es X.env))) _ _ _
    exact Calls.spliced_cons (ld_glob I hg hm (names_ok I r h) hd)
end
end EV
set_option Elab.async false
set_option linter.all false
set_option autoImplicit false
set_option maxRecDepth 100000
namespace EV
open PySem PySem.Spec PyProof.Rows L2
def sTryAs (f g : SF) (cl : List Str) (ia inn : Nat) : SF := fun σ h => match f σ h with
  | .ok fl h' => .ok fl h'
  | _ => match g σ h with | .ex x h' => if x.cls ∈ cl ∧ x.fs = [] then .ok (.next ((σ.set inn none).set ia (some (.exc x.cls Str.empty [])))) h' else .bad | _ => .bad
theorem ClsE.caught {X : Cx} {A : Around} {E : Value → Shared → Prop} : ∀ {es : List Expr} {Cs : List Addr}, ClsE X es Cs → ClsE (Cx.caught X A E) es Cs
  | _, _, .nil => .nil
  | _, _, .cons a b c d e => .cons a b c d (ClsE.caught e)
structure XHitA (K : PySem.W.Frag) (mg : Str → Option Value) (n : Str) (vs : List Value) : Prop where
  ex : ∃ C, mg n = some (.ref C) ∧ PySem.W.nsIn K mainGlobals n = some (some (.ref C)) ∧ PySem.W.exmAny K (.ref C) vs = some true
theorem rs_caught {K : PySem.W.Frag} {ρ : List Addr} {H : Hp} {σa : Fr} {σ : L2.St} (r : RS K ρ H σa σ) {ia inn : Nat} (hne : ia ≠ inn) {d : D} {v : V} (rv : RV K ρ H d v) (hia : ia < σ.length) : RS K ρ H ((σa.set inn none).set ia (some d)) (((σ.set inn (some v)).set ia (some v)).set inn none) := by
  refine ⟨by simp [r.len], fun i d' e => ?_⟩
  by_cases h1 : i = ia
  · subst h1
    rw [List.getElem?_set_self (by rw [List.length_set, r.len]; exact hia)] at e
    cases e
    refine ⟨v, ?_, rv⟩
    rw [List.getElem?_set_ne (Ne.symm hne), List.getElem?_set_self (by rw [List.length_set]; exact hia)]
  · rw [List.getElem?_set_ne (Ne.symm h1)] at e
    by_cases h2 : i = inn
    · subst h2
      by_cases hl : i < σa.length
      · rw [List.getElem?_set_self hl] at e; cases e
      · rw [List.getElem?_eq_none (by rw [List.length_set]; omega)] at e; cases e
    · rw [List.getElem?_set_ne (Ne.symm h2)] at e
      obtain ⟨v', e1, e2⟩ := r.at_ i d' e
      refine ⟨v', ?_, e2⟩
      rw [List.getElem?_set_ne (Ne.symm h2), List.getElem?_set_ne (Ne.symm h1), List.getElem?_set_ne (Ne.symm h2)]
      exact e1
section
variable {X : Cx} {body : List Stmt} {cs : List Expr} {C1 C2 C3 : Addr} {nm av : Str} {cl : List Str} {f g : SF} {ia inn : Nat} {np ap tp apos hpos pos : Pos}
theorem ss_tryAs {x1} (cl : List Str) (hst : X.stack = X.env :: X.outer) (hfr : X.env.frame = some X.env.locals) (hex : X.ex = []) (hN : X.N.Nodup) (hb : SSs X.nox body f) (hx : ∀ (E : Value → Shared → Prop) (W : XW2), Acc2 (X.wish E) W → SXSs (X.wish E) W body g)
    (hcs : ClsE X cs [C1, C2, C3]) (hh : ∀ n ∈ cl, XHitA X.K X.mg n [.ref C1, .ref C2, .ref C3]) (hne : ia ≠ inn) (hia : X.N[ia]? = some av) (hin : X.N[inn]? = some nm) (hka : X.env.scope.names.lookup av = some .local) (hkn : X.env.scope.names.lookup nm = some .local)
    (hd : (nm == ("__debug__" : Str)) = false := by decide +kernel) (hsw : swapsWith (.Name nm np) (some (.Name av ap)) apos.line X.env = pure false := by rfl) :
    SS X (.Try body [.ExceptHandler (some (.Tuple cs x1 tp)) (some nm) [.Assign [.Name av ap] (.Name nm np) apos] hpos] [] [] pos) (sTryAs f g cl ia inn) := ⟨fun pins s σ H D I q => by
  obtain ⟨ρ, σa, h, fl, h', rh, rs, e, kk⟩ := q
  refine wpAny_Try_except ?_
  unfold sTryAs at e
  split at e
  · rename_i fl2 h2 z
    cases e
    refine wpAny_mono (hb.out pins s σ H D (I.wish _) ⟨ρ, σa, h, fl, h', rh, rs, z, kk⟩) (fun fl s1 q => ?_) fun _ _ z => False.elim z
    have q := q.unwish
    cases fl with
    | next =>
      obtain ⟨σ', H', I', q⟩ := q
      exact wpAny_execs_nil ⟨σ', H', I', q⟩
    | brk => exact q
    | cont => exact q
    | ret u => exact q
  · split at e
    · rename_i x h1 z
      split at e
      · rename_i hc
        cases e
        obtain ⟨C, hu, hns, hm⟩ := (hh _ hc.1).ex
        refine wpAny_mono ((hx (fun ev s₁ => wpAny (model X.prog X.w) X.A (noteFrame ev X.env) (fun _ s₂ => wpAny (model X.prog X.w) X.A (setFlight ev none) (fun _ s₃ => wpAny (model X.prog X.w) X.A (handleBy ev X.env [.ExceptHandler (some (.Tuple cs x1 tp)) (some nm) [.Assign [.Name av ap] (.Name nm np) apos] hpos]) (SP X pins D) X.xe s₃) X.xe s₂) X.xe s₁) (fun p σ' cls H' => p = pins ∧ σ' = σ ∧ cls = .ref C ∧ ∃ ρ1, Ext X.K ρ H ρ1 H' ∧ RH X.K ρ1 h' H') ?acc).out pins s σ H { nx := fun _ _ => False, bk := fun _ _ => False, ct := fun _ _ => False, rt := fun _ _ => False } (I.wish _) ⟨ρ, σa, h, x, h', rh, rs, z, fun ρ1 H1 cls p1 rh1 hm2 => ⟨rfl, rfl, ?cls, ρ1, p1, rh1⟩⟩) (fun fl s1 q => ?fin) fun _ _ z => z
        case cls =>
          have e3 : X.mg x.cls = some cls := hm2
          rw [hu] at e3; cases e3; rfl
        case fin =>
          cases fl with
          | next => obtain ⟨_, _, _, q⟩ := q; exact q.elim
          | brk => obtain ⟨_, _, _, q⟩ := q; exact q.elim
          | cont => obtain ⟨_, _, _, q⟩ := q; exact q.elim
          | ret u => obtain ⟨_, _, _, _, _, q⟩ := q; exact q.elim
        case acc =>
          intro p2 σ2 H2 s2 ea T cls F ⟨e1, e2, e3, ρ1, p1, rh1⟩
          subst e1 e2 e3
          show wpAny _ _ (noteFrame _ _) _ _ _
          have I2 : Inv X p2 σ2 H2 s2 := F.inv.unwish
          obtain ⟨H0, s0, I0, os, gb, Aw, t⟩ := F.ex
          have hAf : X.A.frames = some (X.env :: X.outer) := by rw [← hst]; exact I.ok.frames
          have ff : s2.heap.FunFrames X.base (X.env :: X.outer) := by rw [← hst]; exact I2.stack
          have fsE : frs X.stack = frs (X.env :: X.outer) := by rw [hst]
          obtain ⟨a0, fly⟩ := fly_of t ff
          have hfs : ∀ b ∈ frs (X.env :: X.outer), (b ∈ frs X.stack ∨ s0.heap.get? b = none) ∧ H2 b = none := fun b hb => ⟨.inl (by rw [fsE]; exact hb), I2.stkFree b (by rw [fsE]; exact hb)⟩
          have Aw : Away X.prog X.w (frs X.stack) H0 s0.heap H2 ea T s2.heap := Aw
          have back : ∀ (s5 : Shared) (b0 : Value), s5.os = s2.os → AllBare s5.gens → Heap.FlyingW (PySem.W.hideAll s2.heap (ea :: T :: frs (X.env :: X.outer))) (X.env :: X.outer) ea (.ref C) b0 s5.heap → s2.heap.UpToSlots s5.heap → Inv X p2 σ2 H2 s5 := by
            intro s5 b0 os5 gb5 fl5 us
            obtain ⟨T', A2, t2⟩ := Aw.step ff fl5.1 us fl5.2.2.2 hfs
            exact I0.unwish.call' (s' := s5) (ch := []) (os5.trans os) A2.un A2.hok gb5 (fun b z => absurd z (by simp))
          refine wpAny_looks_onW hAf hfr fly fun h4 held us4 => ?_
          refine wpAny_landsW held fun h5 fly5 us5 => ?_
          have I5 := back { s2 with heap := h5 } a0 rfl gb fly5 (us4.trans us5)
          have I5c := Inv.caught (A := X.A.mark (some (.ref ea))) I5 rfl (fun _ _ => False)
          refine wpAny_handleBy_cons (codeAny_handlers_test ?_) (by intro q; cases q)
          refine wpAny_Tuple_spliced (names_ok I5c hcs.caught ⟨by rw [List.length_map, sizeLine_eq]; show 3 ≤ 16777216; decide, ?_⟩)
          have k5 : ∀ b o, h5.get? b = some o → (h5.push { cls := .type "tuple", data := .seq ([C1, C2, C3].map Value.ref).toArray }).get? b = some o := fun b o q => Heap.get?_push_of_some _ q
          have fly5' := fly_keep fly5 k5
          obtain ⟨ob, hob, hobc⟩ := fly5'.there
          have LT : PySem.W.Looks (model X.prog X.w) (h5.push { cls := .type "tuple", data := .seq ([C1, C2, C3].map Value.ref).toArray }) (typeOf (.ref ea)) (.ref C) := XAt.type ⟨ob, hob, hobc⟩
          refine (PySem.W.exm_tup3 (I5.kIn.keeps k5) LT (Heap.get?_push_size _ rfl) hm) _ _ _ _ (fun _ _ z => z) ?_
          refine codeAny_handlers_suite_as ?_
          refine lands_againW fly5' fun h6 fly6 us6 => ?_
          have I6 := back { s2 with heap := h6 } a0 rfl gb fly6 (((us4.trans us5).trans (Heap.UpToSlots.of_keeps k5)).trans us6)
          obtain ⟨oe, vs, T', oT, ts, g1, ⟨g2, g2'⟩, g3, _⟩ := fly6.2.2.2
          have neL : ∀ {h7 : Heap} {m : Str → Option Value}, h7.Ns X.env.locals m → h7.get? ea = some oe → ea ≠ X.env.locals := fun {h7 m} hn he z => by
            obtain ⟨o, es, ep, a1, a2, _⟩ := hn
            rw [← z, he] at a1
            cases a1
            rw [g3] at a2; cases a2
          have neC : ∀ {h7 : Heap} {c : Addr} {v : Option Value}, h7.IsCell c v → h7.get? ea = some oe → ea ≠ c := fun {h7 c v} hn he z => by
            obtain ⟨o, a1, a2⟩ := hn
            rw [← z, he] at a1
            cases a1
            rw [g3] at a2; cases a2
          have keepE : ∀ {s7 : Shared} {a : Addr} {y : Str} {h8 : Heap} {σ7 : L2.St} {H7 : Hp}, Inv X p2 σ7 H7 s7 → s7.heap.get? ea = some oe → Heap.SameBut a s7.heap h8 → (a = X.env.locals ∨ X.env.cells.lookup y = some a) → h8.get? ea = some oe := fun {s7 a y h8 σ7 H7} I7 he sb ha => by
            refine (sb.2 ea ?_).trans he
            rcases ha with rfl | ha
            · obtain ⟨m, hn, _⟩ := I7.loc
              exact neL hn he
            · obtain ⟨v, hv⟩ := I7.cell y a ha
              exact neC hv he
          refine store_ok2 I6 hN hin (.inl hkn) (v := .ref ea) rfl (fun s7 I7 ⟨a7, sb7, ha7⟩ => ?_) (.inr hkn)
          have he7 : s7.heap.get? ea = some oe := keepE I6 g1 sb7 ha7
          have hiσ : inn < σ2.length := by rw [I2.len]; exact (List.getElem?_eq_some_iff.mp hin).1
          have haσ : ia < σ2.length := by rw [I2.len]; exact (List.getElem?_eq_some_iff.mp hia).1
          refine wpAny_execs_cons (wpAny_Assign_Name ?_ hsw)
          obtain ⟨m7, hn7, hl7⟩ := id I7.loc
          obtain ⟨u7, r7, look7⟩ := hl7 inn nm (.ref ea) hin (List.getElem?_set_self hiσ) (.inl hkn)
          cases (show u7 = Value.ref ea from r7)
          have kk7 : X.env.kindOf nm = some .local := hkn
          have hm7 : m7 nm = some (.ref ea) := by
            rcases look7 with ⟨_, z⟩ | ⟨z | z, _⟩
            · exact z
            · rw [kk7] at z; cases z
            · rw [kk7] at z; cases z
          refine wpAny_Name (wpAny_loadName_local I.ok.kind kk7 hn7 hm7 ?_) hd
          refine store_ok2 I7 hN hia (.inl hka) (v := .ref ea) rfl (fun s8 I8 ⟨a8, sb8, ha8⟩ => ?_) (.inr hka)
          have he8 : s8.heap.get? ea = some oe := keepE I7 he7 sb8 ha8
          refine wpAny_execs_nil ?_
          obtain ⟨m8, hn8, _⟩ := id I8.loc
          have hcls : (X.env.scope.kind == .class || (X.env.scope.kind == .module && X.env.locals != X.env.globals)) = false := by rw [I.ok.kind]; rfl
          refine wpAny_nameGoes_keeps kk7 hn8 hcls fun h9 v9 hn9 hs9 => ?_
          have I9 := Inv.gone I8 hN hin hkn hn8 hn9 hs9 (t' := s8.toks + 1)
          have he9 : h9.get? ea = some oe := (hs9.2 ea (neL hn8 he8)).trans he8
          have h00 : X.s_0.heap.get? ea = none := by
            cases y : X.s_0.heap.get? ea with
            | none => rfl
            | some o =>
              obtain ⟨o', h'⟩ := I0.base.there ea o y (by show ea ∉ X.ex; rw [hex]; simp)
              have := Aw.e0
              rw [h'] at this; cases this
          have I10 := Inv.adopt I9 ea Aw.He he9 h00 (neL hn9 he9) (fun y c hy => by obtain ⟨v, hv⟩ := I9.cell y c hy; exact Ne.symm (neC hv he9)) (fun p hp z => by
            have := (I0.pin p hp).1
            rw [z, Aw.e0] at this; cases this)
          have p3 : Ext X.K ρ1 H2 ρ1 (upd H2 ea (.frz oe (.own ea))) := Ext.upd (.inl Aw.He)
          have ex : ExA X.K (upd H2 ea (.frz oe (.own ea))) ea x.cls Str.empty [] := ⟨oe, C, L2.upd_same, hns, g2, by unfold PySem.W.notCls; rw [g3], .inl rfl⟩
          exact ⟨_, _, I10, kk ρ1 _ (p1.trans p3) (rh1.laid Aw.He) _ (rs_caught (rs.up (p1.trans p3)) hne (.exc ex .nil) haσ)⟩
      · cases e
    · cases e⟩
end
end EV
set_option Elab.async false
set_option linter.all false
set_option autoImplicit false
set_option maxRecDepth 100000
namespace EV
open PySem PySem.Spec PyProof.Rows L2
section
variable {M : Model} {A : Around} {E : Value → Shared → Prop} {s : Shared} {base : Heap} {env : Env} {outer : List Env} {L e : Addr} {Q : Unit → Shared → Prop}
def Rest (F as : List Addr) (h h' : Heap) : Prop := (∀ b o, h.get? b = some o → b ∉ as → b ∉ F → h'.get? b = some o) ∧ ∀ b o, h.get? b = some o → b ∉ as → b ∈ F → ∃ sl, h'.get? b = some { o with slots := sl }
theorem Rest.trans {F as : List Addr} {h h1 h2 : Heap} (a : Rest F as h h1) (b : Rest F as h1 h2) : Rest F as h h2 :=
  ⟨fun x o e n f => b.1 x o (a.1 x o e n f) n f, fun x o e n f => by
    obtain ⟨sl, e1⟩ := a.2 x o e n f
    obtain ⟨sl2, e2⟩ := b.2 x _ e1 n f
    exact ⟨sl2, e2⟩⟩
theorem Rest.mono {F as as' : List Addr} {h h' : Heap} (a : Rest F as h h') (k : ∀ x, x ∈ as → x ∈ as') : Rest F as' h h' := ⟨fun b o e n => a.1 b o e fun z => n (k b z), fun b o e n => a.2 b o e fun z => n (k b z)⟩
end
end EV
set_option Elab.async false
set_option linter.all false
set_option autoImplicit false
set_option maxRecDepth 100000
namespace EV
open PySem PySem.Spec PyProof.Rows L2
structure XStore (K : PySem.W.Frag) (C : Addr) (name : Str) : Prop where
  sa : PySem.W.findIn K (.ref C) "__setattr__" = some (some (.builtin "object.__setattr__"))
  ob : PySem.W.mroIn K C (.type "object") = some true
  no : PySem.W.findIn K (.ref C) name = some none
  mr : ∃ cd, PySem.W.clsIn K C = some cd ∧ cd.hasDict = true ∧ ∀ self, refuseLoop self "__setattr__" cd.mro = pure ()
section
variable {prog : Program} {w : World} {A : Around} {E : Value → Shared → Prop} {s : Shared} {K : PySem.W.Frag} {x C : Addr} {ox : Obj} {name : Str} {v : Value} {vs : Array Value} {Q : Unit → Shared → Prop}
theorem xset (X : K.In s.heap) (hx : s.heap.get? x = some ox) (hc : ox.cls = .ref C) (hdn : ox.dict = none) (hda : ox.data = .fields vs) (F : XStore K C name)
    (h : ∀ h' tk', h'.get? x = some { ox with dict := some s.heap.objs.size } → h'.Ns1 s.heap.objs.size (fun y => if y = name then some v else none) → (∀ b o, b ≠ x → s.heap.get? b = some o → h'.get? b = some o) → s.heap.objs.size ≠ x → Q () { s with heap := h', toks := tk' }) :
    wpAny (model prog w) A (setAttr (.ref x) name v) Q E s := by
  have T : ∀ {M : Model}, PySem.W.Looks M s.heap (typeOf (.ref x)) (.ref C) := XAt.type ⟨ox, hx, hc⟩
  have SF := PySem.F.store_object
  obtain ⟨cd, hcd, hhd, hpass⟩ := F.mr
  obtain ⟨hh, g, d, tk, os⟩ := s
  have sub : PySem.W.Looks (model prog w) hh (isInstance (.ref x) (.type "object")) true := T.andThen (PySem.W.looks_mroIn X F.ob)
  have hm : PySem.W.Looks (model prog w) hh (mroOf (.ref C)) cd.mro := (PySem.W.looks_clsIn X hcd).andThen .now
  unfold setAttr
  refine wpAny_bind (wpAny_mkText (wpAny_bind ?_))
  unfold callSpecial? specialOf
  refine wpAny_bind (wpAny_bind (T.at ((PySem.W.looks_findIn X F.sa).at ?_)))
  refine wpAny_holding (wpAny_bind ?_)
  rw [SF.slot.bind]
  refine wpAny_pure (wpAny_bind (wpAny_call ?_))
  refine codeAny_call_builtin SF.slot.plain SF.entry (@PySem.W.check_slot (model prog w) _ _ ⟨hh, g, d, tk + 1, os⟩ "object.__setattr__" "object" "__setattr__" (.ref x) [.str name tk, v] [] _ SF.kind SF.split sub (SF.args _ _ _) ?_)
  show wpAny _ _ (Builtin.«object.__setattr__» ⟨[.ref x, .str name tk, v], []⟩) _ _ _
  rw [PySem.W.osa_eq, refuse_eq]
  refine wpAny_bind (wpAny_bind (T.at (wpAny_bind (hm.at ?_))))
  rw [hpass]
  refine wpAny_pure (wpAny_bind (T.at (wpAny_bind ((PySem.W.looks_findIn X F.no).at (wpAny_bind (wpAny_pure ?_))))))
  show wpAny _ _ (Builtin.ObjectAttr.storeInOwnDict _ _ _ _ _ _) _ _ _
  unfold Builtin.ObjectAttr.storeInOwnDict Builtin.ObjectAttr.ownDictForStores
  refine wpAny_bind (wpAny_pure ?_)
  rw [if_neg (show ¬ (Value.ref C == Value.type "module") = true from by simp)]
  obtain ⟨oc, odi, oda, osl⟩ := ox
  dsimp only at hc hdn hda
  subst hc hdn hda
  show wpAny _ _ (instanceDict x true >>= _) _ _ _
  have hs : x < hh.objs.size := Heap.lt_size hx
  unfold instanceDict
  refine wpAny_bind (wpAny_bind (wpAny_loadPart hx ?_))
  refine wpAny_bind ((PySem.W.looks_clsIn X hcd).at ?_)
  rw [hhd]
  refine wpAny_bind (wpAny_alloc' ?_)
  have hx1 : (hh.push { cls := .type "dict", data := .dict #[] }).get? x = some ⟨.ref C, none, .fields vs, osl⟩ := Heap.get?_push_of_some _ hx
  refine wpAny_bind (wpAny_update' hx1 ?_)
  refine wpAny_pure ?_
  show wpAny _ _ (Builtin.ObjectAttr.storeInDict _ _ _ _) _ _ _
  have gd : ((hh.push { cls := .type "dict", data := .dict #[] }).update x fun o => { o with dict := some hh.objs.size }).get? hh.objs.size = some { cls := .type "dict", data := .dict #[] } := (Heap.get?_update_ne _ _ _ _ (Nat.ne_of_gt hs)).trans (Heap.get?_push_at rfl rfl)
  have nd : ((hh.push { cls := .type "dict", data := .dict #[] }).update x fun o => { o with dict := some hh.objs.size }).Ns hh.objs.size (fun _ => none) := ⟨_, #[], _, gd, rfl, fun e he => absurd he (by simp), fun _ => rfl⟩
  unfold Builtin.ObjectAttr.storeInDict Builtin.ObjectAttr.newKeyGuard
  refine wpAny_bind (wpAny_pure (wpAny_bind (wpAny_nsSet1 (Heap.Ns1.of_empty nd) fun h' hn' sb => ?_)))
  obtain ⟨oD, esD, epD, hoD, hdD, hcD⟩ := hn'.count (Within.cons name v Within.nil)
  refine wpAny_bind (wpAny_lookBehind hoD (by rw [hdD]; exact pastItsLine_dict (Nat.le_trans hcD (by rw [List.length_cons, List.length_nil, sizeLine_eq]; omega))) ?_)
  refine wpAny_pure (wpAny_pure (wpAny_pure (h h' _ ?_ hn' (fun b o nb q => ?_) (Nat.ne_of_gt hs))))
  · refine (sb.2 x (Nat.ne_of_lt hs)).trans (Heap.get?_update_self _ hx1 rfl)
  · exact (sb.2 b (Nat.ne_of_lt (Heap.lt_size q))).trans ((Heap.get?_update_ne _ _ _ _ nb).trans (Heap.get?_push_of_some _ q))
end
end EV
set_option Elab.async false
set_option linter.all false
set_option autoImplicit false
set_option maxRecDepth 100000
namespace EV
open PySem PySem.Spec PyProof.Rows L2
structure XBm (Bn : String) (bm : List Value) : Prop where
  b : bm.contains (.type Bn) = true
  a : bm.contains (.type "AttributeError") = false
  n : bm.contains (.type "NameError") = false
section
variable {M : Model} {A : Around} {E : Value → Shared → Prop} {h : Heap} {g : Array GenState} {d : Drawn} {t : Nat} {os : OsState}
variable {nm q : Str} {C N : Addr} {bs bm bmN : List Value} {hdct : Bool} {sn : List Str} {sub : List Value} {ab : Bool} {col : Option Bool} {dd : Option Addr} {k0 k1 k2 k3 k5 : Option Value} {Bn newId inN : String}
theorem xcheck_new (Fn : ExcBaseFacts Bn newId inN bmN) (T : XBm Bn bm) {rest : List Value} {Q : Unit → Shared → Prop} (hC : h.get? C = some (excClassObj nm q C N bs bm hdct sn sub ab col dd k0 k1 k2 k3 k5 newId))
    (hq : Q () ⟨h, g, d, t, os⟩) : wpAny M A (checkBuiltinCall newId ⟨.ref C :: rest, []⟩) Q E ⟨h, g, d, t, os⟩ := by
  have hcont : (Value.ref C :: bm).contains (.type Bn) = true := by rw [List.contains_cons, T.b, Bool.or_true]
  have hstar := Fn.noStar
  simp only [checkBuiltinCall, Fn.newKind, Fn.newSplit, Fn.newRow]
  repeat (first | refine wpAny_loadPart_at hC ?_ | (refine wpAny_isSubtype_exc hC ?_; rw [hcont]) | refine wpAny_staticBase_exc hC ?_ | refine wpAny_madeBy_exc hC ?_ | simp only [bne_self_eq_false, Bool.false_eq_true, if_false] | wp_step)
  exact hq
end
section
variable {prog : Program} {w : World} {A : Around} {R : Result → Shared → Prop} {h : Heap} {g : Array GenState} {d : Drawn} {t : Nat} {os : OsState}
variable {nm q : Str} {C N : Addr} {bs bm bmN : List Value} {hdct : Bool} {sn : List Str} {sub : List Value} {ab : Bool} {col : Option Bool} {dd : Option Addr} {k0 k1 k2 k3 k5 : Option Value} {Bn newId inN : String}
theorem xnew (Fn : ExcBaseFacts Bn newId inN bmN) (T : XBm Bn bm) {rest : List Value} (hC : h.get? C = some (excClassObj nm q C N bs bm hdct sn sub ab col dd k0 k1 k2 k3 k5 newId))
    (hq : R (.ok (.ret (.ref (h.objs.size + 1)))) ⟨(h.push { cls := .type "tuple", data := .seq rest.toArray }).push
      { cls := .ref C, data := .fields #[.ref h.objs.size, .none, .none, .none, .bool false, .none] }, g, d, t, os⟩) (hrest : rest.length ≤ sizeLine) :
    codeAny (model prog w) A (.builtin newId ⟨.ref C :: rest, []⟩) R ⟨h, g, d, t, os⟩ := by
  have hends := Fn.ends
  have hcB : (Value.ref C :: bm).contains (.type Bn) = true := by rw [List.contains_cons, T.b, Bool.or_true]
  have hcA : (Value.ref C :: bm).contains (.type "AttributeError") = false := by rw [List.contains_cons, T.a]; rfl
  have hcN : (Value.ref C :: bm).contains (.type "NameError") = false := by rw [List.contains_cons, T.n]; rfl
  refine codeAny_builtinAt Fn.entry ?_
  unfold Builtin.«BaseException.__new__»
  refine PySem.wpAt_bind ?_
  show PySem.wpAt _ _ _ (stack >>= _) _ _ _
  refine PySem.wpAt_bind (PySem.wpAt_stack fun p below => PySem.wpAt_of_wpAny ?_)
  wp_walk
  refine PySem.wpAt_of_wpAny ?_
  rw [Fn.owner]
  repeat (first | with_reducible refine wpAny_madeHere_exc Fn.canon hC ?_ | with_reducible refine wpAny_loadPart_at hC ?_ | (with_reducible refine wpAny_isSubtype_exc hC ?_; first | rw [hcB] | rw [hcA] | rw [hcN]) | wp_step)
  show R _ _
  rw [Heap.size_push]
  exact hq
end
section
variable {prog : Program} {w : World} {A : Around} {E : Value → Shared → Prop} {K : PySem.W.Frag} {h : Heap} {g : Array GenState} {d : Drawn} {t : Nat} {os : OsState}
variable {nm q : Str} {C N : Addr} {bs bm bmB : List Value} {hdct : Bool} {sn : List Str} {sub : List Value} {ab : Bool} {col : Option Bool} {dd : Option Addr} {k0 k1 k2 k3 k5 : Option Value} {B newId initId : String}
theorem xtype_call (F : ExcBaseFacts B newId initId bmB) (Tl : XBm B bm) (X : K.In h) {rest : List Value} {fI : Addr} {Q : Fin → Shared → Prop} (hK : h.get? C = some (excClassObj nm q C N bs bm hdct sn sub ab col dd k0 k1 k2 k3 k5 newId))
    (hi : PySem.W.findIn K (.ref C) "__init__" = some (some (.ref fI))) (hf : PySem.W.typeIn K (.ref fI) = some (.type "function"))
    (hq : ∀ h' e, Heap.MadeExcOf h h' e (.ref C) rest → wpAny (model prog w) A (call (.ref fI) (.ref e :: rest)) (fun r s' => r = .none ∧ Q (.done (.ret (.ref e))) s') E ⟨h', g, d, t, os⟩) (hz : rest.length ≤ sizeLine) :
    wpAny (model prog w) A (Builtin.«type.__call__» ⟨.ref C :: rest, []⟩) Q E ⟨h, g, d, t, os⟩ := by
  repeat (first | with_reducible refine wpAny_loadPart_at hK ?_ | with_reducible refine wpAny_madeBy_exc hK ?_ | wp_step)
  refine codeAny_call_builtin_code (Code.quiet_builtin _ F.quiet) (xcheck_new F Tl hK (xnew F Tl hK ?_ hz))
  show wpAny _ _ _ _ _ _
  generalize hT : ({ cls := .type "tuple", data := .seq rest.toArray } : Obj) = oT
  generalize hE : ({ cls := .ref C, data := .fields #[.ref h.objs.size, .none, .none, .none, .bool false, .none] } : Obj) = oE
  have kp : ∀ b o, h.get? b = some o → ((h.push oT).push oE).get? b = some o := fun b o z => Heap.get?_push_of_some _ (Heap.get?_push_of_some _ z)
  have X1 : K.In ((h.push oT).push oE) := X.keeps kp
  have hE1 : ((h.push oT).push oE).get? (h.objs.size + 1) = some oE := by
    have := Heap.get?_push_size (h.push oT) (o := oE) (by rw [← hE]; rfl)
    rwa [Heap.size_push] at this
  have hT1 : ((h.push oT).push oE).get? h.objs.size = some oT := Heap.get?_push_of_some _ (Heap.get?_push_size h (by rw [← hT]; rfl))
  have cls : oE.cls = .ref C := by rw [← hE]
  have self : (Value.ref C :: bm).contains (.ref C) = true := by simp
  unfold isInstance
  repeat (first | (with_reducible refine wpAny_loadPart_at hE1 ?_; rw [cls]) | (with_reducible refine wpAny_isSubtype_exc (kp _ _ hK) ?_; rw [self]) | wp_step)
  refine (PySem.W.looks_findIn X1 hi).at (wpAny_holding (wpAny_bind ?_))
  unfold bindSpecial
  refine wpAny_bind ((PySem.W.looks_typeIn X1 hf).at ?_)
  rw [if_pos (by decide)]
  refine wpAny_pure (wpAny_bind (wpAny_mono (hq _ (h.objs.size + 1) ⟨kp, Heap.get?_none_of_le (Nat.le_succ _), h.objs.size, by rw [hE1, ← hE], Heap.get?_none_of_le (Nat.le_refl _), by rw [hT1, ← hT]⟩) (fun r s' z => ?_) fun _ _ y => y))
  obtain ⟨rfl, z⟩ := z
  wp_walk
  exact z
theorem xcall (F : ExcBaseFacts B newId initId bmB) (Tl : XBm B bm) (X : K.In h) {rest : List Value} {fI : Addr} {Q : Value → Shared → Prop} (hK : h.get? C = some (excClassObj nm q C N bs bm hdct sn sub ab col dd k0 k1 k2 k3 k5 newId))
    (hi : PySem.W.findIn K (.ref C) "__init__" = some (some (.ref fI))) (hf : PySem.W.typeIn K (.ref fI) = some (.type "function"))
    (hq : ∀ h' e, Heap.MadeExcOf h h' e (.ref C) rest → wpAny (model prog w) (A.under (.builtin "type.__call__" ⟨.ref C :: rest, []⟩)) (call (.ref fI) (.ref e :: rest)) (fun r s' => r = .none ∧ Q (.ref e) s') E ⟨h', g, d, t, os⟩) (hz : rest.length ≤ sizeLine) :
    wpAny (model prog w) A (call (.ref C) rest) Q E ⟨h, g, d, t, os⟩ := by
  have f1 := tc_lookup
  have f2 := tc_bind (.ref C)
  have ty : (⟨h, g, d, t, os⟩ : Shared).TypeIs (.ref C) "type" := ⟨_, hK, rfl⟩
  refine wpAny_call (codeAny_of_tree ?_)
  show wpAny _ _ (callAny (.ref C) ⟨rest, []⟩) _ _ _
  repeat (any_goals (first | assumption | with_reducible refine wpAny_loadPart_at hK ?_ | wp_step))
  refine ⟨rfl, codeAny_call_builtin_at (Code.quiet_builtin _ (by decide +kernel)) entry_typeCall (wpAny_check_type_call_sub hK ?_)⟩
  exact xtype_call F Tl X hK hi hf (fun h' e m => hq h' e m) hz
end
end EV
set_option Elab.async false
set_option linter.all false
set_option autoImplicit false
set_option maxRecDepth 100000
namespace EV
open PySem PySem.Spec PyProof.Rows L2
structure XInit (K : PySem.W.Frag) (fI : Addr) (f : Str) : Prop where
  fn : PySem.W.typeIn K (.ref fI) = some (.type "function")
  ex : ∃ (oc : Value) (od : Option Addr) (osl : Array (Option Value)) (qual p : Str) (params : Arguments) (scope : Scope) (dV kV doc pm cdv ct : Value) (an : Option Addr) (p1 p2 p3 p4 : Pos),
    K.lookup fI = some ⟨oc, od, .func (PySem.W.fnOf "__init__" qual params [.Assign [.Attribute (.Name "self" p1) f p2] (.Name p p3) p4] scope dV kV doc pm an cdv ct), osl⟩ ∧ PySem.W.codeIn K cdv qual = true ∧
    scope.names.lookup ("self" : Str) = some .local ∧ scope.names.lookup p = some .local ∧ p ≠ ("self" : Str) ∧ (p == ("__debug__" : Str)) = false ∧ scope.isCoroutine = false ∧ scope.isGenerator = false ∧ scope.kind = .function ∧
    ∀ (s : Shared) (u v : Value), K.In s.heap → BindsTo s (PySem.W.fnOf "__init__" qual params [.Assign [.Attribute (.Name "self" p1) f p2] (.Name p p3) p4] scope dV kV doc pm an cdv ct) ⟨[u, v], []⟩ [(("self" : Str), u), (p, v)]
section
variable {prog : Program} {w : World} {A : Around} {E : Value → Shared → Prop} {s : Shared} {K : PySem.W.Frag} {C fI e : Addr} {f : Str} {v : Value} {oe : Obj} {vs : Array Value} {Q : Value → Shared → Prop}
theorem xinit_run (I : XInit K fI f) (X : K.In s.heap) (lim : s.heap.NoLimit) (dp : A.depth < recursionLimit) (he : s.heap.get? e = some oe) (hc : oe.cls = .ref C) (hdn : oe.dict = none) (hda : oe.data = .fields vs) (F : XStore K C f)
    (h : ∀ h' tk' dx, h'.get? e = some { oe with dict := some dx } → h'.Ns1 dx (fun y => if y = f then some v else none) → (∀ b o, b ≠ e → s.heap.get? b = some o → h'.get? b = some o) → s.heap.get? dx = none → dx ≠ e → Q .none { s with heap := h', toks := tk' }) :
    wpAny (model prog w) A (call (.ref fI) [.ref e, v]) Q E s := by
  obtain ⟨oc, od, osl, qual, p, params, scope, dV, kV, doc, pm, cdv, ct, an, p1, p2, p3, p4, lk, cd, k1, k2, ne, nd, nc, ng, kf, bd⟩ := I.ex
  refine wpAny_call (Att.call_fn X lim lk cd dp (bd s (.ref e) v X) (by simp [k1, k2]) (fun s1 ic => ?_) nc ng kf)
  generalize hE : envOfC qual scope s.heap.objs.size fI cdv = env
  have kl1 : env.kindOf "self" = some .local := by rw [← hE]; exact k1
  have kl2 : env.kindOf p = some .local := by rw [← hE]; exact k2
  have kk : env.scope.kind = .function := by rw [← hE]; exact kf
  rw [hE] at ic
  have ns := ic.toInCall.ns
  have loc : env.locals = s.heap.objs.size := by rw [← hE]; rfl
  rw [← loc] at ns
  have m1 : bindL env.kindOf [(("self" : Str), .ref e), (p, v)] (fun _ => none) "self" = some (.ref e) := by simp [bindL, kl1, kl2, Ne.symm ne]
  have m2 : bindL env.kindOf [(("self" : Str), .ref e), (p, v)] (fun _ => none) p = some v := by simp [bindL, kl1, kl2]
  obtain ⟨h1, tk1, rfl⟩ := ic.toInCall.same
  have X1 : K.In h1 := X.keeps ic.toInCall.keep
  refine wpAny_execs_cons (plainObj_wpAny_Assign_Attribute (wpAny_Name (wpAny_loadName_local kk kl2 ns m2 ?_) nd) (by rfl))
  refine wpAny_Name (wpAny_loadName_local kk kl1 ns m1 ?_) (by decide)
  refine xset X1 (ic.toInCall.keep e oe he) hc hdn hda F fun h' tk' g1 g2 g3 g4 => wpAny_execs_nil ?_
  refine h h' tk' _ g1 g2 (fun b o nb q => g3 b o nb (ic.toInCall.keep b o q)) ?_ g4
  cases y : s.heap.get? h1.objs.size with
  | none => rfl
  | some o => exact absurd (Heap.lt_size (ic.toInCall.keep _ o y)) (Nat.lt_irrefl _)
end
end EV
set_option Elab.async false
set_option linter.all false
set_option autoImplicit false
set_option maxRecDepth 100000
namespace EV
open PySem PySem.Spec PyProof.Rows L2
structure XMade (K : PySem.W.Frag) (C : Addr) (f : Str) : Prop where
  ex : ∃ (nm q : Str) (N fI : Addr) (bs bm bmB : List Value) (hdct : Bool) (sn : List Str) (sub : List Value) (ab : Bool) (col : Option Bool) (dd : Option Addr) (k0 k1 k2 k3 k5 : Option Value) (B newId initId : String),
    K.lookup C = some (excClassObj nm q C N bs bm hdct sn sub ab col dd k0 k1 k2 k3 k5 newId) ∧ ExcBaseFacts B newId initId bmB ∧ XBm B bm ∧ PySem.W.findIn K (.ref C) "__init__" = some (some (.ref fI)) ∧ XInit K fI f
  kp : PySem.W.keepIn K (.ref C) = true
  st : XStore K C f
  fd : XFind K C
def FldAt (h : Heap) (e dx C : Addr) (f : Str) (v : Value) : Prop := ∃ oe, h.get? e = some oe ∧ oe.cls = .ref C ∧ PySem.W.notCls oe = true ∧ oe.dict = some dx ∧ h.Ns1 dx (fun y => if y = f then some v else none)
section
variable {X : Cx} {pins : List (Addr × Obj)} {σ : L2.St} {H : Hp} {s : Shared} {C : Addr} {f : Str} {v : Value}
theorem run_made {Q : Value → Shared → Prop} {k : Nat} (M : XMade X.K C f) (I : Inv X pins σ H s) (hr : Room (k + 1) X.A)
    (h : ∀ e dx s', Inv X pins σ H s' → FldAt s'.heap e dx C f v → s.heap.get? e = none → s.heap.get? dx = none → dx ≠ e → (∀ b o, s.heap.get? b = some o → s'.heap.get? b = some o) → H e = none → Q (.ref e) s') : wpAny (model X.prog X.w) X.A (call (.ref C) [v]) Q X.xe s := by
  obtain ⟨nm, q, N, fI, bs, bm, bmB, hdct, sn, sub, ab, col, dd, k0, k1, k2, k3, k5, B, newId, initId, lk, FB, tl, fi, xi⟩ := M.ex
  have kin := I.kIn
  have lim := I.nolimit
  have dp : X.A.depth + 1 < recursionLimit := by have := hr.dp; omega
  obtain ⟨hh, g, d, t, os⟩ := s
  refine xcall FB tl kin (kin _ _ lk) fi xi.fn (fun h' e mk => ?_) (by rw [sizeLine_eq]; show 1 ≤ 16777216; decide)
  obtain ⟨t0, he, _, _⟩ := mk.there
  refine xinit_run (s := ⟨h', g, d, t, os⟩) xi (kin.keeps mk.keeps) (lim.keeps mk.keeps) (by rw [make_depth]; exact dp) he rfl rfl rfl M.st fun h2 tk2 dx g1 g2 g3 g4 g5 => ⟨rfl, ?_⟩
  have kp : ∀ b o, hh.get? b = some o → h2.get? b = some o := fun b o z => g3 b o (fun y => by rw [y, mk.new] at z; cases z) (mk.keeps b o z)
  have nd : hh.get? dx = none := by
    cases y : hh.get? dx with
    | none => rfl
    | some o => have z := mk.keeps dx o y; rw [show h'.get? dx = none from g4] at z; cases z
  refine h e dx ⟨h2, g, d, tk2, os⟩ (I.kept (t' := tk2) kp) ⟨_, g1, rfl, rfl, rfl, g2⟩ mk.new nd g5 kp ?_
  cases y : H e with
  | none => rfl
  | some o =>
    have := (ObjOk.there (I.hok e o y))
    obtain ⟨ob, z⟩ := this
    have n := mk.new
    rw [z] at n; cases n
theorem look_fld {o : Obj} {es : Array DictEntry} {ep : Nat} (hd : o.data = .dict es ep) (hn : nsFind es f = some v) : PySem.W.lookIn f o = some (some v) := by
  unfold PySem.W.lookIn
  rw [hd]
  unfold nsFind findBy at hn
  rw [← Array.find?_toList] at hn
  dsimp only
  split
  · rename_i en he
    rw [he] at hn
    simpa using hn
  · rename_i he
    rw [he] at hn
    cases hn
theorem get_fld {Q : Value → Shared → Prop} {E : Value → Shared → Prop} {A : Around} {expr : Bool} {e dx : Addr} {prog : Program} {w : World} {K : PySem.W.Frag} (X : K.In s.heap) (F : XFind K C) (S : XStore K C f) (a : FldAt s.heap e dx C f v) (hv : PySem.W.handedIn v = true) (h : Q v { s with toks := s.toks + 1 }) :
    wpAny (model prog w) A (getAttr (.ref e) f expr) Q E s := by
  obtain ⟨oe, g1, g2, g3, g4, o, es, ep, b1, b2, _, _, b5⟩ := a
  have J : PySem.W.InstAt s.heap e oe C (some o) := ⟨g1, g2, g3, by rw [g4]; exact b1⟩
  have lf := look_fld b2 (b5 f |>.trans (if_pos rfl))
  obtain ⟨cd, hcd, hhd, _⟩ := S.mr
  have ff : PySem.W.findObj K C (some o) f = some (.value v) := by
    simp only [PySem.W.findObj, hcd, S.no, Option.bind_some, PySem.W.ownOf, hhd, if_true, lf]
  obtain ⟨hh, g, d, t, os⟩ := s
  unfold getAttr
  refine wpAny_bind (wpAny_mkText (xga_open (s := ⟨hh, g, d, t + 1, os⟩) X ⟨oe, g1, g2⟩ F (xga_value (s := ⟨hh, g, d, t + 1, os⟩) X J F ff ?_)))
  show wpAny _ _ (handedOut v) _ _ _
  rw [PySem.W.handedOut_of hv]
  exact wpAny_pure h
theorem handed {y : V} (r : RelV y v) : PySem.W.handedIn v = true := by
  cases y with
  | non => cases (show v = _ from r); rfl
  | bl b => cases (show v = _ from r); rfl
  | int i => obtain ⟨t, rfl⟩ := (show ∃ t, v = Value.int i t from r); rfl
  | str x => obtain ⟨t, rfl⟩ := (show ∃ t, v = Value.str x t from r); rfl
  | byt x => obtain ⟨t, rfl⟩ := (show ∃ t, v = Value.bytes x t from r); rfl
  | flt x => obtain ⟨t, rfl⟩ := (show ∃ t, v = Value.float x t from r); rfl
  | ref a => cases (show v = _ from r); rfl
  | ty n => cases (show v = _ from r); rfl
end
section
variable {X : Cx} {cn f : Str} {C : Addr} {e : Expr} {te : TE} {k : Nat} {np cpos apos : Pos}
theorem pe_made (M : XMade X.K C f) (hr : Room (k + 1) X.A) (hm : X.mg cn = some (.ref C)) (ha : PE X e te) (hg : Gl X cn) (hdb : (cn == ("__debug__" : Str)) = false)
    (hb : attributeBase (.Call (.Name cn np) [e] [] cpos) f X.env (eval (.Call (.Name cn np) [e] [] cpos) X.env) = eval (.Call (.Name cn np) [e] [] cpos) X.env)
    (he : starEach [e] X.env = (false, eval e X.env) :: starEach [] X.env) (hpl : (backTo cpos (starEach [] X.env)).any (·.1) = false) : PE X (.Attribute (.Call (.Name cn np) [e] [] cpos) f apos) te := by
  intro pins s σ H Q I h
  refine attr_of hb (wpAny_Call_Name_kw (ld_glob I hg hm ?_ hdb))
  refine PySem.W.callWith_K (h₀ := X.base) I.ok.mod.kin M.kp ?_ he hpl
  rw [he]
  show wpAny _ _ (spliced ((false, eval e X.env) :: backTo cpos (starEach [] X.env))) _ _ s
  refine Calls.spliced_cons (thn (ha pins s σ H Q I h) fun u s1 ⟨y, H1, I1, r1, q1⟩ => Calls.spliced_nil ⟨I1.kIn, ?_⟩)
  exact run_made M I1 hr fun e dx s' I' fa _ _ _ _ _ => get_fld I'.kIn M.fd M.st fa (handed r1) ⟨y, H1, I'.tok _, r1, q1⟩
theorem se_made {fe : EF} (M : XMade X.K C f) (hr : Room (k + 1) X.A) (hm : X.mg cn = some (.ref C)) (ha : SE X e fe) (hg : Gl X cn := by rfl) (hdb : (cn == ("__debug__" : Str)) = false := by decide +kernel)
    (hb : attributeBase (.Call (.Name cn np) [e] [] cpos) f X.env (eval (.Call (.Name cn np) [e] [] cpos) X.env) = eval (.Call (.Name cn np) [e] [] cpos) X.env := by rfl)
    (he : starEach [e] X.env = (false, eval e X.env) :: starEach [] X.env := by rfl) (hpl : (backTo cpos (starEach [] X.env)).any (·.1) = false := by rfl) : SE X (.Attribute (.Call (.Name cn np) [e] [] cpos) f apos) fe :=
  ⟨pe_made M hr hm ha.out hg hdb hb he hpl⟩
end
end EV
set_option Elab.async false
set_option linter.all false
set_option autoImplicit false
set_option maxRecDepth 100000
namespace EV
open PySem PySem.Spec PyProof.Rows L2
section
variable {X : Cx} {pins : List (Addr × Obj)} {σ : L2.St} {H H' : Hp} {s s' : Shared}
theorem Inv.take (I0 : Inv X pins σ H s) (I : Inv X pins σ H' s') (hex : X.ex = []) {a : Addr} (y : Addr) {o : Obj} (hn : s.heap.get? a = none) (hH : H' a = none) (hg : s'.heap.get? a = some o) : Inv X pins σ (upd H' a (.frz o (.own y))) s' := by
  refine Inv.adopt I y hH hg ?_ (fun z => ?_) (fun x c hc z => ?_) (fun p hp z => ?_)
  · cases y : X.s_0.heap.get? a with
    | none => rfl
    | some o =>
      obtain ⟨o', h'⟩ := I0.base.there a o y (by rw [hex]; simp)
      rw [hn] at h'; cases h'
  · obtain ⟨m, ⟨o, _, _, ho, _⟩, _⟩ := I0.loc
    rw [← z, hn] at ho; cases ho
  · obtain ⟨v, o, ho, _⟩ := I0.cell x c hc
    rw [z, hn] at ho; cases ho
  · have := (I0.pin p hp).1
    rw [z, hn] at this; cases this
theorem Inv.none_of (I0 : Inv X pins σ H s) {a : Addr} (hn : s.heap.get? a = none) : H a = none := by
  cases y : H a with
  | none => rfl
  | some o =>
    obtain ⟨ob, z⟩ := ObjOk.there (I0.hok a o y)
    rw [hn] at z; cases z
end
section
variable {X : Cx} {cn f : Str} {C : Addr} {e : Expr} {fe : EF} {k : Nat} {np cpos : Pos}
def eMk0 (n : Str) (fe : EF) : EF := fun σ h => (fe σ h).bind fun _ h1 => .ok (.exc n Str.empty []) h1
def eMk (n f : Str) (fe : EF) : EF := fun σ h => (fe σ h).bind fun x h1 => .ok (.exc n f [x]) h1
theorem se_mk0 (hX : XCls X.K X.mg cn) (hkp : ∀ C, X.mg cn = some (.ref C) → PySem.W.keepIn X.K (.ref C) = true ∧ PySem.W.nsIn X.K mainGlobals cn = some (some (.ref C))) (hex : X.ex = []) (ha : SE X e fe) (hg : Gl X cn := by rfl) (hdb : (cn == ("__debug__" : Str)) = false := by decide +kernel)
    (he : starEach [e] X.env = (false, eval e X.env) :: starEach [] X.env := by rfl) (hpl : (backTo cpos (starEach [] X.env)).any (·.1) = false := by rfl) : SE X (.Call (.Name cn np) [e] [] cpos) (eMk0 cn fe) := ⟨fun pins s σ H Q I q => by
  obtain ⟨ρ, σa, h, v, h', rh, rs, e1, kk⟩ := q
  obtain ⟨x, h1, e2, e1⟩ := bind_eq e1
  cases e1
  obtain ⟨C, B, newId, initId, bmB, hm, hxin, FB⟩ := hX.ex
  obtain ⟨kp, ns⟩ := hkp C hm
  refine wpAny_Call_Name_kw (ld_glob I hg hm (PySem.W.callWith_K (h₀ := X.base) I.ok.mod.kin kp ?_ he hpl) hdb)
  rw [he]
  show wpAny _ _ (spliced ((false, eval e X.env) :: backTo cpos (starEach [] X.env))) _ _ s
  refine Calls.spliced_cons (thn (ha.out pins s σ H (fun y H1 => ∃ ρ1, Ext X.K ρ H ρ1 H1 ∧ RH X.K ρ1 h' H1) I ⟨ρ, σa, h, x, h', rh, rs, e2, fun ρ1 y H1 p1 rh1 _ => ⟨ρ1, p1, rh1⟩⟩) fun u s1 ⟨y, H1, I1, r1, ρ1, p1, rh1⟩ => Calls.spliced_nil ⟨I1.kIn, ?_⟩)
  obtain ⟨bm, N, nm, qn, bs, hdct, sn, sub, ab, col, dd, k0, k1, k2, k3, k5, mN, hC, hN, hni, T⟩ := excObj I1.kIn hxin
  obtain ⟨hh, g, d, t, os⟩ := s1
  refine wpAny_call_exc_subT FB T hC hN hni (fun h2 ea mk => ?_) (by rw [sizeLine_eq]; show 1 ≤ 16777216; decide)
  obtain ⟨t0, g1, _, _⟩ := mk.there
  have He := Inv.none_of I1 mk.new
  have I2 : Inv X pins σ H1 ⟨h2, g, d, t, os⟩ := I1.kept (t' := t) mk.keeps
  have I3 := Inv.take I1 I2 hex ea mk.new He g1
  exact ⟨.ref ea, _, I3, rfl, kk ρ1 _ _ (p1.trans (Ext.upd (.inl He))) (rh1.laid He) (.exc ⟨_, C, L2.upd_same, ns, rfl, rfl, .inl rfl⟩ .nil)⟩⟩
theorem se_mk (M : XMade X.K C f) (hr : Room (k + 1) X.A) (hm : X.mg cn = some (.ref C)) (ns : PySem.W.nsIn X.K mainGlobals cn = some (some (.ref C))) (hex : X.ex = []) (ha : SE X e fe) (hg : Gl X cn := by rfl) (hdb : (cn == ("__debug__" : Str)) = false := by decide +kernel)
    (he : starEach [e] X.env = (false, eval e X.env) :: starEach [] X.env := by rfl) (hpl : (backTo cpos (starEach [] X.env)).any (·.1) = false := by rfl) : SE X (.Call (.Name cn np) [e] [] cpos) (eMk cn f fe) := ⟨fun pins s σ H Q I q => by
  obtain ⟨ρ, σa, h, v, h', rh, rs, e1, kk⟩ := q
  obtain ⟨x, h1, e2, e1⟩ := bind_eq e1
  cases e1
  refine wpAny_Call_Name_kw (ld_glob I hg hm (PySem.W.callWith_K (h₀ := X.base) I.ok.mod.kin M.kp ?_ he hpl) hdb)
  rw [he]
  show wpAny _ _ (spliced ((false, eval e X.env) :: backTo cpos (starEach [] X.env))) _ _ s
  refine Calls.spliced_cons (thn (ha.out pins s σ H (fun y H1 => ∃ ρ1, Ext X.K ρ H ρ1 H1 ∧ RH X.K ρ1 h' H1 ∧ RV X.K ρ1 H1 x y) I ⟨ρ, σa, h, x, h', rh, rs, e2, fun ρ1 y H1 p1 rh1 ry => ⟨ρ1, p1, rh1, ry⟩⟩) fun u s1 ⟨y, H1, I1, r1, ρ1, p1, rh1, ry⟩ => Calls.spliced_nil ⟨I1.kIn, ?_⟩)
  refine run_made M I1 hr fun ea dx s2 I2 fa new newd ne kp He => ?_
  obtain ⟨oe, g1, g2, g3, g4, o, es, ep, b1, b2, b3, b4, b5⟩ := fa
  have Hd := Inv.none_of I1 newd
  have I3 := Inv.take I1 I2 hex ea new He g1
  have Hd2 : upd H1 ea (.frz oe (.own ea)) dx = none := by rw [L2.upd_ne ne]; exact Hd
  have I4 := Inv.take I1 I3 hex ea newd Hd2 b1
  have p2 : Ext X.K ρ1 H1 ρ1 (upd H1 ea (.frz oe (.own ea))) := Ext.upd (.inl He)
  have p3 : Ext X.K ρ1 (upd H1 ea (.frz oe (.own ea))) ρ1 (upd (upd H1 ea (.frz oe (.own ea))) dx (.frz o (.own ea))) := Ext.upd (.inl Hd2)
  have lf := look_fld b2 (b5 f |>.trans (if_pos rfl))
  exact ⟨.ref ea, _, I4, rfl, kk ρ1 _ _ (p1.trans (p2.trans p3)) ((rh1.laid He).laid Hd2) (.exc ⟨oe, C, by rw [L2.upd_ne (Ne.symm ne), L2.upd_same], ns, g2, g3, .inr ⟨dx, o, y, u, rfl, g4, L2.upd_same, lf, r1⟩⟩ (.cons (ry.up (p2.trans p3)) .nil))⟩⟩
end
end EV
set_option Elab.async false
set_option linter.all false
set_option autoImplicit false
set_option maxRecDepth 100000
namespace EV
open PySem PySem.Spec PyProof.Rows L2
def Tab1 (K : PySem.W.Frag) (v : Value) : List (Str × Bool) → Prop
  | [] => True
  | (n, b) :: r => (∃ C, PySem.W.nsIn K mainGlobals n = some (some (.ref C)) ∧ XFind K C ∧ PySem.W.kitOne K (.ref C) v = some b) ∧ Tab1 K v r
def TabA (K : PySem.W.Frag) (vs : List Value) : List (Str × Bool) → Prop
  | [] => True
  | (n, b) :: r => (∃ C, PySem.W.nsIn K mainGlobals n = some (some (.ref C)) ∧ XFind K C ∧ PySem.W.kitAny K (.ref C) vs = some b) ∧ TabA K vs r
theorem tab1_of {K : PySem.W.Frag} {v : Value} : ∀ {tab : List (Str × Bool)}, Tab1 K v tab → ∀ n b, tab.lookup n = some b → ∃ C, PySem.W.nsIn K mainGlobals n = some (some (.ref C)) ∧ XFind K C ∧ PySem.W.kitOne K (.ref C) v = some b
  | [], _, n, b, e => by cases e
  | (m, c) :: r, h, n, b, e => by
    rw [List.lookup_cons] at e
    cases q : n == m with
    | true => rw [q] at e; cases e; rw [eq_of_beq q]; exact h.1
    | false => rw [q] at e; exact tab1_of h.2 n b e
theorem tabA_of {K : PySem.W.Frag} {vs : List Value} : ∀ {tab : List (Str × Bool)}, TabA K vs tab → ∀ n b, tab.lookup n = some b → ∃ C, PySem.W.nsIn K mainGlobals n = some (some (.ref C)) ∧ XFind K C ∧ PySem.W.kitAny K (.ref C) vs = some b
  | [], _, n, b, e => by cases e
  | (m, c) :: r, h, n, b, e => by
    rw [List.lookup_cons] at e
    cases q : n == m with
    | true => rw [q] at e; cases e; rw [eq_of_beq q]; exact h.1
    | false => rw [q] at e; exact tabA_of h.2 n b e
structure XQ1 (K : PySem.W.Frag) (mg : Str → Option Value) (cn : Str) (tab : List (Str × Bool)) : Prop where
  ex : ∃ C, mg cn = some (.ref C) ∧ PySem.W.kitOne K (.type "NoneType") (.ref C) = some false ∧ Tab1 K (.ref C) tab
structure XQB (K : PySem.W.Frag) (B : String) (tab : List (Str × Bool)) : Prop where
  non : PySem.W.kitOne K (.type "NoneType") (.type B) = some false
  tb : Tab1 K (.type B) tab
structure XQ2 (K : PySem.W.Frag) (mg : Str → Option Value) (c1 c2 : Str) (tab : List (Str × Bool)) : Prop where
  ex : ∃ C1 C2, mg c1 = some (.ref C1) ∧ mg c2 = some (.ref C2) ∧ PySem.W.kitAny K (.type "NoneType") [.ref C1, .ref C2] = some false ∧ TabA K [.ref C1, .ref C2] tab
structure XT3 (K : PySem.W.Frag) (mg : Str → Option Value) (c1 c2 c3 : Str) (cl : List Str) : Prop where
  ex : ∃ C1 C2 C3, mg c1 = some (.ref C1) ∧ mg c2 = some (.ref C2) ∧ mg c3 = some (.ref C3) ∧ ∀ n ∈ cl, XHitA K mg n [.ref C1, .ref C2, .ref C3]
structure XMI (K : PySem.W.Frag) (mg : Str → Option Value) (cn f : Str) : Prop where
  ex : ∃ C, mg cn = some (.ref C) ∧ PySem.W.nsIn K mainGlobals cn = some (some (.ref C)) ∧ XMade K C f
structure XM0 (K : PySem.W.Frag) (mg : Str → Option Value) (cn : Str) : Prop where
  ex : ∃ (C : Addr) (B newId initId : String) (bmB : List Value), mg cn = some (.ref C) ∧ PySem.W.excIn K C bmB newId = true ∧ ExcBaseFacts B newId initId bmB ∧ PySem.W.keepIn K (.ref C) = true ∧ PySem.W.nsIn K mainGlobals cn = some (some (.ref C))
theorem XM0.c {K : PySem.W.Frag} {mg : Str → Option Value} {cn : Str} (T : XM0 K mg cn) : XCls K mg cn := by
  obtain ⟨C, B, n, i, b, h1, h2, h3, _⟩ := T.ex
  exact ⟨C, B, n, i, b, h1, h2, h3⟩
theorem XM0.k {K : PySem.W.Frag} {mg : Str → Option Value} {cn : Str} (T : XM0 K mg cn) : ∀ C, mg cn = some (.ref C) → PySem.W.keepIn K (.ref C) = true ∧ PySem.W.nsIn K mainGlobals cn = some (some (.ref C)) := by
  obtain ⟨C, B, n, i, b, h1, h2, h3, h4, h5⟩ := T.ex
  intro C' e
  rw [h1] at e; cases e
  exact ⟨h4, h5⟩
theorem ref_KeyError (self : Value) : refuseLoop self "__setattr__" [.type "KeyError", .type "LookupError", .type "Exception", .type "BaseException", .type "object"] = pure () := by kernel_rfl
theorem ref_ValueError (self : Value) : refuseLoop self "__setattr__" [.type "ValueError", .type "Exception", .type "BaseException", .type "object"] = pure () := by kernel_rfl
section
variable {X : Cx} {e : Expr} {fe : EF} {cn f c1 c2 c3 : Str} {B : String} {tab : List (Str × Bool)} {k : Nat} {np cpos apos p p1 p2 p3 p4 pos : Pos}
theorem se_q1 (hm : X.mg "isinstance" = none) (T : XQ1 X.K X.mg cn tab) (ha : SE X e fe) (hg : Gl X "isinstance" := by rfl) (hg2 : Gl X cn := by rfl) (hd : (cn == ("__debug__" : Str)) = false := by decide +kernel)
    (he : starEach [e, .Name cn p2] X.env = (false, eval e X.env) :: starEach [.Name cn p2] X.env := by rfl) (he2 : starEach [.Name cn p2] X.env = (false, eval (.Name cn p2) X.env) :: starEach [] X.env := by rfl) (hpl : (backTo pos (starEach [.Name cn p2] X.env)).any (·.1) = false := by rfl) : SE X (.Call (.Name "isinstance" p) [e, .Name cn p2] [] pos) (eIsX tab fe) := by
  obtain ⟨C, h1, h2, h3⟩ := T.ex
  exact se_isX hm h1 ⟨h2, tab1_of h3⟩ ha hg hg2 hd he he2 hpl
theorem se_qB (hm : X.mg "isinstance" = none) (hm2 : X.mg cn = none) (T : XQB X.K B tab) (ha : SE X e fe) (hb : bootBuiltins cn = some (.type B) := by decide +kernel) (hg : Gl X "isinstance" := by rfl) (hg2 : Gl X cn := by rfl) (hn : cn ≠ "__name__" := by decide +kernel) (hd : (cn == ("__debug__" : Str)) = false := by decide +kernel)
    (he : starEach [e, .Name cn p2] X.env = (false, eval e X.env) :: starEach [.Name cn p2] X.env := by rfl) (he2 : starEach [.Name cn p2] X.env = (false, eval (.Name cn p2) X.env) :: starEach [] X.env := by rfl) (hpl : (backTo pos (starEach [.Name cn p2] X.env)).any (·.1) = false := by rfl) : SE X (.Call (.Name "isinstance" p) [e, .Name cn p2] [] pos) (eIsX tab fe) :=
  se_isB hm hm2 ⟨T.non, tab1_of T.tb⟩ ha hb hg hg2 hn hd he he2 hpl
theorem se_q2 {x1} (hm : X.mg "isinstance" = none) (T : XQ2 X.K X.mg c1 c2 tab) (ha : SE X e fe) (hg : Gl X "isinstance" := by rfl) (g1 : Gl X c1 := by rfl) (g2 : Gl X c2 := by rfl) (d1 : (c1 == ("__debug__" : Str)) = false := by decide +kernel) (d2 : (c2 == ("__debug__" : Str)) = false := by decide +kernel)
    (s1 : starEach [.Name c1 p1, .Name c2 p2] X.env = (false, eval (.Name c1 p1) X.env) :: starEach [.Name c2 p2] X.env := by rfl) (s2 : starEach [.Name c2 p2] X.env = (false, eval (.Name c2 p2) X.env) :: starEach [] X.env := by rfl)
    (he : starEach [e, .Tuple [.Name c1 p1, .Name c2 p2] x1 p3] X.env = (false, eval e X.env) :: starEach [.Tuple [.Name c1 p1, .Name c2 p2] x1 p3] X.env := by rfl) (he2 : starEach [.Tuple [.Name c1 p1, .Name c2 p2] x1 p3] X.env = (false, eval (.Tuple [.Name c1 p1, .Name c2 p2] x1 p3) X.env) :: starEach [] X.env := by rfl) (hpl : (backTo pos (starEach [.Tuple [.Name c1 p1, .Name c2 p2] x1 p3] X.env)).any (·.1) = false := by rfl) :
    SE X (.Call (.Name "isinstance" p) [e, .Tuple [.Name c1 p1, .Name c2 p2] x1 p3] [] pos) (eIsX tab fe) := by
  obtain ⟨C1, C2, m1, m2, h1, h2⟩ := T.ex
  exact se_isT (Cs := [C1, C2]) hm ⟨h1, tabA_of h2⟩ (by show 2 ≤ 9; decide) (.cons g1 m1 d1 s1 (.cons g2 m2 d2 s2 .nil)) ha hg he he2 hpl
theorem se_mi (T : XMI X.K X.mg cn f) (hr : Room (k + 1) X.A) (hex : X.ex = []) (ha : SE X e fe) (hg : Gl X cn := by rfl) (hdb : (cn == ("__debug__" : Str)) = false := by decide +kernel)
    (he : starEach [e] X.env = (false, eval e X.env) :: starEach [] X.env := by rfl) (hpl : (backTo cpos (starEach [] X.env)).any (·.1) = false := by rfl) : SE X (.Call (.Name cn np) [e] [] cpos) (eMk cn f fe) := by
  obtain ⟨C, h1, h2, h3⟩ := T.ex
  exact se_mk h3 hr h1 h2 hex ha hg hdb he hpl
theorem se_mf (T : XMI X.K X.mg cn f) (hr : Room (k + 1) X.A) (ha : SE X e fe) (hg : Gl X cn := by rfl) (hdb : (cn == ("__debug__" : Str)) = false := by decide +kernel)
    (hb : attributeBase (.Call (.Name cn np) [e] [] cpos) f X.env (eval (.Call (.Name cn np) [e] [] cpos) X.env) = eval (.Call (.Name cn np) [e] [] cpos) X.env := by rfl)
    (he : starEach [e] X.env = (false, eval e X.env) :: starEach [] X.env := by rfl) (hpl : (backTo cpos (starEach [] X.env)).any (·.1) = false := by rfl) : SE X (.Attribute (.Call (.Name cn np) [e] [] cpos) f apos) fe := by
  obtain ⟨C, h1, h2, h3⟩ := T.ex
  exact se_made h3 hr h1 ha hg hdb hb he hpl
theorem se_m0 (T : XM0 X.K X.mg cn) (hex : X.ex = []) (ha : SE X e fe) (hg : Gl X cn := by rfl) (hdb : (cn == ("__debug__" : Str)) = false := by decide +kernel)
    (he : starEach [e] X.env = (false, eval e X.env) :: starEach [] X.env := by rfl) (hpl : (backTo cpos (starEach [] X.env)).any (·.1) = false := by rfl) : SE X (.Call (.Name cn np) [e] [] cpos) (eMk0 cn fe) := se_mk0 T.c T.k hex ha hg hdb he hpl
theorem ss_try3 {x1} {body : List Stmt} {nm av : Str} {cl : List Str} {ff g : SF} {ia inn : Nat} {ap tp hpos : Pos} (T : XT3 X.K X.mg c1 c2 c3 cl) (hst : X.stack = X.env :: X.outer) (hfr : X.env.frame = some X.env.locals) (hex : X.ex = []) (hN : X.N.Nodup) (hb : SSs X.nox body ff) (hx : ∀ (E : Value → Shared → Prop) (W : XW2), Acc2 (X.wish E) W → SXSs (X.wish E) W body g)
    (hne : ia ≠ inn) (hia : X.N[ia]? = some av) (hin : X.N[inn]? = some nm) (hka : X.env.scope.names.lookup av = some .local) (hkn : X.env.scope.names.lookup nm = some .local)
    (g1 : Gl X c1 := by rfl) (g2 : Gl X c2 := by rfl) (g3 : Gl X c3 := by rfl) (d1 : (c1 == ("__debug__" : Str)) = false := by decide +kernel) (d2 : (c2 == ("__debug__" : Str)) = false := by decide +kernel) (d3 : (c3 == ("__debug__" : Str)) = false := by decide +kernel)
    (s1 : starEach [.Name c1 p1, .Name c2 p2, .Name c3 p3] X.env = (false, eval (.Name c1 p1) X.env) :: starEach [.Name c2 p2, .Name c3 p3] X.env := by rfl) (s2 : starEach [.Name c2 p2, .Name c3 p3] X.env = (false, eval (.Name c2 p2) X.env) :: starEach [.Name c3 p3] X.env := by rfl) (s3 : starEach [.Name c3 p3] X.env = (false, eval (.Name c3 p3) X.env) :: starEach [] X.env := by rfl)
    (hd : (nm == ("__debug__" : Str)) = false := by decide +kernel) (hsw : swapsWith (.Name nm np) (some (.Name av ap)) apos.line X.env = pure false := by rfl) :
    SS X (.Try body [.ExceptHandler (some (.Tuple [.Name c1 p1, .Name c2 p2, .Name c3 p3] x1 tp)) (some nm) [.Assign [.Name av ap] (.Name nm np) apos] hpos] [] [] pos) (sTryAs ff g cl ia inn) := by
  obtain ⟨C1, C2, C3, m1, m2, m3, hh⟩ := T.ex
  exact ss_tryAs cl hst hfr hex hN hb hx (.cons g1 m1 d1 s1 (.cons g2 m2 d2 s2 (.cons g3 m3 d3 s3 .nil))) hh hne hia hin hka hkn hd hsw
end
end EV
set_option Elab.async false
set_option linter.all false
set_option autoImplicit false
set_option maxRecDepth 100000
namespace EV
open PySem PySem.Spec PyProof.Rows L2
section
variable {K : PySem.W.Frag} {mg : Str → Option Value} {h : Heap} {cn c1 c2 c3 n f : Str} {B : String} {b : Bool} {v : Value} {vs : List Value} {tab : List (Str × Bool)} {C C1 C2 C3 N fI : Addr} {cl : List Str}
theorem tab1_nil : Tab1 K v [] := True.intro
theorem tabA_nil : TabA K vs [] := True.intro
theorem tab1_cons (a : PySem.W.nsIn K mainGlobals n = some (some (.ref C))) (x : XFind K C) (k : PySem.W.kitOne K (.ref C) v = some b) (r : Tab1 K v tab) : Tab1 K v ((n, b) :: tab) := ⟨⟨C, a, x, k⟩, r⟩
theorem tabA_cons (a : PySem.W.nsIn K mainGlobals n = some (some (.ref C))) (x : XFind K C) (k : PySem.W.kitAny K (.ref C) vs = some b) (r : TabA K vs tab) : TabA K vs ((n, b) :: tab) := ⟨⟨C, a, x, k⟩, r⟩
theorem xq1_of (X : K.In h) (G : h.Ns mainGlobals mg) (a : PySem.W.nsIn K mainGlobals cn = some (some (.ref C))) (z : PySem.W.kitOne K (.type "NoneType") (.ref C) = some false) (t : Tab1 K (.ref C) tab) : XQ1 K mg cn tab := ⟨⟨C, PySem.W.mg_of X G a, z, t⟩⟩
theorem xqb_of (z : PySem.W.kitOne K (.type "NoneType") (.type B) = some false) (t : Tab1 K (.type B) tab) : XQB K B tab := ⟨z, t⟩
theorem xq2_of (X : K.In h) (G : h.Ns mainGlobals mg) (a1 : PySem.W.nsIn K mainGlobals c1 = some (some (.ref C1))) (a2 : PySem.W.nsIn K mainGlobals c2 = some (some (.ref C2))) (z : PySem.W.kitAny K (.type "NoneType") [.ref C1, .ref C2] = some false) (t : TabA K [.ref C1, .ref C2] tab) : XQ2 K mg c1 c2 tab :=
  ⟨⟨C1, C2, PySem.W.mg_of X G a1, PySem.W.mg_of X G a2, z, t⟩⟩
def HitL (K : PySem.W.Frag) (vs : List Value) : List Str → Prop
  | [] => True
  | n :: r => (∃ C, PySem.W.nsIn K mainGlobals n = some (some (.ref C)) ∧ PySem.W.exmAny K (.ref C) vs = some true) ∧ HitL K vs r
theorem hitL_nil : HitL K vs [] := True.intro
theorem hitL_cons (a : PySem.W.nsIn K mainGlobals n = some (some (.ref C))) (k : PySem.W.exmAny K (.ref C) vs = some true) (r : HitL K vs cl) : HitL K vs (n :: cl) := ⟨⟨C, a, k⟩, r⟩
theorem hitL_of (X : K.In h) (G : h.Ns mainGlobals mg) : ∀ {cl : List Str}, HitL K vs cl → ∀ n ∈ cl, XHitA K mg n vs
  | [], _, n, hn => by cases hn
  | m :: r, t, n, hn => by
    rcases List.mem_cons.mp hn with rfl | hn
    · obtain ⟨⟨C, a, k⟩, _⟩ := t
      exact ⟨⟨C, PySem.W.mg_of X G a, a, k⟩⟩
    · exact hitL_of X G t.2 n hn
theorem xt3_of (X : K.In h) (G : h.Ns mainGlobals mg) (a1 : PySem.W.nsIn K mainGlobals c1 = some (some (.ref C1))) (a2 : PySem.W.nsIn K mainGlobals c2 = some (some (.ref C2))) (a3 : PySem.W.nsIn K mainGlobals c3 = some (some (.ref C3))) (t : HitL K [.ref C1, .ref C2, .ref C3] cl) : XT3 K mg c1 c2 c3 cl :=
  ⟨⟨C1, C2, C3, PySem.W.mg_of X G a1, PySem.W.mg_of X G a2, PySem.W.mg_of X G a3, hitL_of X G t⟩⟩
theorem xm0_of (X : K.In h) (G : h.Ns mainGlobals mg) {newId initId : String} {bmB : List Value} (a : PySem.W.nsIn K mainGlobals cn = some (some (.ref C))) (F : ExcBaseFacts B newId initId bmB) (e : PySem.W.excIn K C bmB newId = true) (k : PySem.W.keepIn K (.ref C) = true) : XM0 K mg cn := ⟨⟨C, B, newId, initId, bmB, PySem.W.mg_of X G a, e, F, k, a⟩⟩
theorem xst_of {cd : ClassData} (a : PySem.W.findIn K (.ref C) "__setattr__" = some (some (.builtin "object.__setattr__"))) (o : PySem.W.mroIn K C (.type "object") = some true) (no : PySem.W.findIn K (.ref C) f = some none) (c : PySem.W.clsIn K C = some cd) (d : cd.hasDict = true) (r : ∀ self, refuseLoop self "__setattr__" cd.mro = pure ()) : XStore K C f := ⟨a, o, no, cd, c, d, r⟩
theorem xin_of {oc : Value} {od : Option Addr} {osl : Array (Option Value)} {qual p : Str} {params : Arguments} {scope : Scope} {dV kV doc pm cdv ct : Value} {an : Option Addr} {p1 p2 p3 p4 : Pos} (fn : PySem.W.typeIn K (.ref fI) = some (.type "function"))
    (l : K.lookup fI = some ⟨oc, od, .func (PySem.W.fnOf "__init__" qual params [.Assign [.Attribute (.Name "self" p1) f p2] (.Name p p3) p4] scope dV kV doc pm an cdv ct), osl⟩) (cd : PySem.W.codeIn K cdv qual = true)
    (s1 : scope.names.lookup ("self" : Str) = some .local) (s2 : scope.names.lookup p = some .local) (ne : p ≠ ("self" : Str)) (nd : (p == ("__debug__" : Str)) = false) (co : scope.isCoroutine = false) (ge : scope.isGenerator = false) (ki : scope.kind = .function)
    (b : ∀ (s : Shared) (u v : Value), BindsTo s (PySem.W.fnOf "__init__" qual params [.Assign [.Attribute (.Name "self" p1) f p2] (.Name p p3) p4] scope dV kV doc pm an cdv ct) ⟨[u, v], []⟩ [(("self" : Str), u), (p, v)]) : XInit K fI f :=
  ⟨fn, ⟨oc, od, osl, qual, p, params, scope, dV, kV, doc, pm, cdv, ct, an, p1, p2, p3, p4, l, cd, s1, s2, ne, nd, co, ge, ki, fun s u v _ => b s u v⟩⟩
theorem xmi_of (X : K.In h) (G : h.Ns mainGlobals mg) {nm q : Str} {bs bm bmB : List Value} {hdct : Bool} {sn : List Str} {sub : List Value} {ab : Bool} {col : Option Bool} {dd : Option Addr} {k0 k1 k2 k3 k5 : Option Value} {newId initId : String}
    (a : PySem.W.nsIn K mainGlobals cn = some (some (.ref C))) (F : ExcBaseFacts B newId initId bmB) (l : K.lookup C = some (excClassObj nm q C N bs bm hdct sn sub ab col dd k0 k1 k2 k3 k5 newId)) (T : XBm B bm) (fi : PySem.W.findIn K (.ref C) "__init__" = some (some (.ref fI))) (I : XInit K fI f)
    (kp : PySem.W.keepIn K (.ref C) = true) (st : XStore K C f) (fd : XFind K C) : XMI K mg cn f :=
  ⟨⟨C, PySem.W.mg_of X G a, a, ⟨nm, q, N, fI, bs, bm, bmB, hdct, sn, sub, ab, col, dd, k0, k1, k2, k3, k5, B, newId, initId, l, F, T, fi, I⟩, kp, st, fd⟩⟩
end
end EV
set_option Elab.async false
set_option linter.all false
set_option autoImplicit false
set_option maxRecDepth 100000
namespace EV
open PySem PySem.Spec PyProof.Rows L2
def eAppD (F : BF) (zs : List Int) (f : AF) : EF := fun σ h => (f σ h).bind fun xs h1 => F (xs ++ zs.map D.int) h1
theorem rvs_ints {K : PySem.W.Frag} {ρ : List Addr} {H : Hp} : ∀ zs : List Int, RVs K ρ H (zs.map D.int) (zs.map V.int)
  | [] => .nil
  | z :: zs => .cons (.int z) (rvs_ints zs)
section
variable {X : Cx} {k : Nat} {x : Str} {st : Stmt} {dV : Value} {ps : List Str} {F : BF} {e : Expr} {es : List Expr} {f g : AF} {p pos : Pos}
theorem se_callD (zs : List Int) (a : Nat) (hz : a + zs.length = ps.length) (HF : HasFn X.prog X.w X.K X.mg X.base k x st dV ps F) (hr : Room k X.A) (ha : SA X (e :: es) f)
    (hb : ∃ ds, Vals (zs.map V.int) ds ∧ ∀ (kV doc pm : Value) (an : Option Addr) (cdv ct : Value) (us : List Value), us.length = a → ∀ s : Shared, X.K.In s.heap → BindsTo s (PySem.W.fnOf x x (defArgs st) (defBody st) (defScope st) dV kV doc pm an cdv ct) ⟨us, []⟩ (ps.zip (us ++ ds)))
    (hg : Gl X x := by rfl) (hdb : (x == ("__debug__" : Str)) = false := by decide +kernel) (he : starEach (e :: es) X.env = (false, eval e X.env) :: starEach es X.env := by rfl) (hpl : (backTo pos (starEach es X.env)).any (·.1) = false := by rfl) :
    SE X (.Call (.Name x p) (e :: es) [] pos) (eAppD F zs f) := by
  obtain ⟨a', fd, hm, FA, ok⟩ := HF.ex
  obtain ⟨oc, od, kV, doc, pm, an, cdv, ct, osl, rfl, lk, hcd⟩ := FA.ex
  obtain ⟨ds, hv, hb⟩ := hb
  refine ⟨PE.of (pe_call (ds := ds) (dvs := zs.map V.int) (E := E0) ok hr hg hm FA.kp (fun s us hK hl => ?_) hv pass0 ha.out hdb he hpl) fun σ H Q q => ?_⟩
  · exact hb kV doc pm an cdv ct us (by have := hv.length; rw [List.length_map] at this; rw [List.length_append] at hl; omega) s hK
  · obtain ⟨ρ, σa, h, v, h', rh, rs, e, k⟩ := q
    obtain ⟨xs, h1, e1, e⟩ := bind_eq e
    refine ⟨ρ, σa, h, xs, h1, rh, rs, e1, fun ρ1 ys H1 p1 rh1 rx => ?_⟩
    exact ⟨ρ1, xs ++ zs.map D.int, h1, v, h', rh1, rx.app (rvs_ints zs), HF.len _ h1 v h' e, e, fun ρ2 z H2 p2 rh2 rz => k ρ2 z H2 (p1.trans p2) rh2 rz⟩
end
def wAppD (Φ : WF) (zs : List Int) (f : WA) : WE := fun τ c Q => f τ c fun ts c1 => Φ (ts ++ zs.map T.int) c1 Q
theorem rds_ints {p : Nat} {B : Nat → Prop} {h : AH} : ∀ zs : List Int, Rds p B h (zs.map D.int) (zs.map T.int)
  | [] => .nil
  | z :: zs => .cons (.int z) (rds_ints zs)
section
variable {S : PenSys} {O : List Nat}
theorem j_appD {F : BF} {Φ : WF} {zs : List Int} {f : AF} {φ : WA} (k : JF S F Φ) (a : JA S O f φ) : JE S O (eAppD F zs f) (wAppD Φ zs φ) := fun p q L B h c σ τ Q G pl r w => by
  obtain ⟨x, h1, tx, c1, e1, g1, G1, r1, k1⟩ := a p q L B h c σ τ _ G pl r w
  obtain ⟨v, h2, t, c2, e2, g2, G2, r2, k2⟩ := k p q B h1 c1 _ _ Q G1 (r1.app (rds_ints zs)) k1
  exact ⟨v, h2, t, c2, by unfold eAppD; rw [e1, bind_ok, e2], g1.trans g2, G2, r2, k2⟩
theorem wAppD_e {Φ : WF} {zs : List Int} {f : WA} {τ : TFr} {c : Nat} {Q : QT} : wAppD Φ zs f τ c Q = (f τ c fun ts c1 => Φ (ts ++ zs.map T.int) c1 Q) := id rfl
end
end EV
set_option Elab.async false
set_option linter.all false
set_option autoImplicit false
set_option maxRecDepth 100000
namespace EV
open PySem PySem.Spec L2
def isxT (tab : List (Str × Bool)) (x : T) : Option Bool := match x with
  | .non => some false
  | .exc n _ _ => tab.lookup n
  | _ => none
def wIsX (tab : List (Str × Bool)) (φ : WE) : WE := fun τ c Q => φ τ c fun t c1 => match isxT tab t with | some b => Q (.bl b) c1 | none => False
def wMk0 (n : Str) (φ : WE) : WE := fun τ c Q => φ τ c fun _ c1 => Q (.exc n Str.empty []) c1
def wMk (n f : Str) (φ : WE) : WE := fun τ c Q => φ τ c fun t c1 => Q (.exc n f [t]) c1
section
variable {S : PenSys} {O : List Nat}
theorem isx_rd {p : Nat} {B : Nat → Prop} {h : AH} {d : D} {t : T} (r : Rd p B h d t) {tab : List (Str × Bool)} {b : Bool} (e : isxT tab t = some b) : isxD tab d = some b := by
  cases r <;> first | exact e | cases e
theorem j_isX {tab : List (Str × Bool)} {f : EF} {φ : WE} (a : JE S O f φ) : JE S O (eIsX tab f) (wIsX tab φ) := fun p q L B h c σ τ Q G pl r w => by
  obtain ⟨x, h1, tx, c1, e1, g1, G1, r1, k1⟩ := a p q L B h c σ τ _ G pl r w
  cases y : isxT tab tx with
  | none => rw [y] at k1; exact k1.elim
  | some b =>
    rw [y] at k1
    exact ⟨.bl b, h1, .bl b, c1, by unfold eIsX; rw [e1, bind_ok, isx_rd r1 y], g1, G1, .bl _, k1⟩
theorem j_mk0 {n : Str} {f : EF} {φ : WE} (a : JE S O f φ) : JE S O (eMk0 n f) (wMk0 n φ) := fun p q L B h c σ τ Q G pl r w => by
  obtain ⟨x, h1, tx, c1, e1, g1, G1, r1, k1⟩ := a p q L B h c σ τ _ G pl r w
  exact ⟨_, h1, _, c1, by unfold eMk0; rw [e1, bind_ok], g1, G1, .exc .nil, k1⟩
theorem j_mk {n f' : Str} {f : EF} {φ : WE} (a : JE S O f φ) : JE S O (eMk n f' f) (wMk n f' φ) := fun p q L B h c σ τ Q G pl r w => by
  obtain ⟨x, h1, tx, c1, e1, g1, G1, r1, k1⟩ := a p q L B h c σ τ _ G pl r w
  exact ⟨_, h1, _, c1, by unfold eMk; rw [e1, bind_ok], g1, G1, .exc (.cons r1 .nil), k1⟩
theorem wIsX_e {tab : List (Str × Bool)} {φ : WE} {τ : TFr} {c : Nat} {Q : QT} : wIsX tab φ τ c Q = φ τ c fun t c1 => match isxT tab t with | some b => Q (.bl b) c1 | none => False := rfl
theorem wMk0_e {n : Str} {φ : WE} {τ : TFr} {c : Nat} {Q : QT} : wMk0 n φ τ c Q = φ τ c fun _ c1 => Q (.exc n Str.empty []) c1 := rfl
theorem wMk_e {n f : Str} {φ : WE} {τ : TFr} {c : Nat} {Q : QT} : wMk n f φ τ c Q = φ τ c fun t c1 => Q (.exc n f [t]) c1 := rfl
end
end EV
set_option Elab.async false
set_option linter.all false
set_option autoImplicit false
set_option maxRecDepth 100000
namespace EV
open PySem PySem.Spec L2
section
variable {τ : TFr} {c : Nat} {Q : QT} {R : QS}
theorem wBin_d {v : V2} {f g : WE} : wBin v f g τ c Q = (f τ c fun x c1 => g τ c1 fun y c2 => v x y fun z => Q z c2) := id rfl
theorem wB2_d {v : V2} {f g : WE} : wB2 v f g τ c Q = (f τ c fun x c1 => g τ c1 fun y c2 => v x y fun z => Q z c2) := id rfl
theorem wB1_d {v : V1} {f : WE} : wB1 v f τ c Q = (f τ c fun x c1 => v x fun z => Q z c1) := id rfl
theorem wVar_d {i : Nat} : wVar i τ c Q = (match τ[i]? with | some (some t) => Q t c | _ => False) := id rfl
theorem wK_d {t : T} : wK t τ c Q = Q t c := id rfl
theorem wNil_d {Q : List T → Nat → Prop} : wNil τ c Q = Q [] c := id rfl
theorem wCons_d {f : WE} {g : WA} {Q : List T → Nat → Prop} : wCons f g τ c Q = (f τ c fun x c1 => g τ c1 fun xs c2 => Q (x :: xs) c2) := id rfl
theorem wTup_d {f : WA} : wTup f τ c Q = (f τ c fun ts c1 => ts.length ≤ sizeLine ∧ Q (.tup ts) c1) := id rfl
theorem wLst_d {f : WA} : wLst f τ c Q = (f τ c fun ts c1 => ts.length ≤ sizeLine ∧ Q (.lst ts) c1) := id rfl
theorem wDict0_d : wDict0 τ c Q = Q (.dct []) c := id rfl
theorem wIf_d {t : WT} {f g : WE} : wIf t f g τ c Q = (t τ c fun b c1 => if b = true then f τ c1 Q else g τ c1 Q) := id rfl
theorem wAnd2_d {f g : WE} : wAnd2 f g τ c Q = (f τ c fun x c1 => match x with | .bl true => g τ c1 Q | .bl false => Q (.bl false) c1 | _ => False) := id rfl
theorem wOr2_d {f g : WE} : wOr2 f g τ c Q = (f τ c fun x c1 => match x with | .bl true => Q (.bl true) c1 | .bl false => g τ c1 Q | _ => False) := id rfl
theorem wNot1_d {f : WE} : wNot1 f τ c Q = (f τ c fun x c1 => match x with | .bl b => Q (.bl (!b)) c1 | _ => False) := id rfl
theorem wNeg_d {f : WE} : wNeg f τ c Q = (f τ c fun x c1 => match x with | .int i => Q (.int (-i)) c1 | _ => False) := id rfl
theorem wChain_d {u v : V2} {f g k : WE} : wChain u v f g k τ c Q = (f τ c fun x c1 => g τ c1 fun y c2 => u x y fun z => match z with
  | .bl true => k τ c2 fun w c4 => v y w fun z => Q z c4
  | .bl false => Q (.bl false) c2
  | _ => False) := id rfl
theorem wB_d {f : WE} {Q : Bool → Nat → Prop} : wB f τ c Q = (f τ c fun x c1 => match x with | .bl b => Q b c1 | _ => False) := id rfl
theorem wTru_d {f : WE} {Q : Bool → Nat → Prop} : wTru f τ c Q = (f τ c fun x c1 => match x.tru with | some b => Q b c1 | none => False) := id rfl
theorem wtNot_d {f : WT} {Q : Bool → Nat → Prop} : wtNot f τ c Q = (f τ c fun b c1 => Q (!b) c1) := id rfl
theorem wtAnd_d {f g : WT} {Q : Bool → Nat → Prop} : wtAnd f g τ c Q = (f τ c fun b c1 => if b = true then g τ c1 Q else Q false c1) := id rfl
theorem wtOr_d {f g : WT} {Q : Bool → Nat → Prop} : wtOr f g τ c Q = (f τ c fun b c1 => if b = true then Q true c1 else g τ c1 Q) := id rfl
theorem wtTrue_d {Q : Bool → Nat → Prop} : wtTrue τ c Q = Q true c := id rfl
theorem woNone_d {Q : Option Int → Nat → Prop} : woNone τ c Q = Q none c := id rfl
theorem woSome_d {f : WE} {Q : Option Int → Nat → Prop} : woSome f τ c Q = (f τ c fun x c1 => match x with | .int i => Q (some i) c1 | _ => False) := id rfl
theorem wSl_d {f : WE} {l u : WO} : wSl f l u τ c Q = (f τ c fun x c1 => l τ c1 fun lo c2 => u τ c2 fun hi c3 => match x with
  | .tup xs => Q (.tup (cutT xs lo hi)) c3
  | .lst xs => Q (.lst (cutT xs lo hi)) c3
  | _ => False) := id rfl
theorem wSlL_d {f : WE} {l u : WO} : wSlL f l u τ c Q = (f τ c fun x c1 => l τ c1 fun lo c2 => u τ c2 fun hi c3 => match x with
  | .lst xs => Q (.lst (cutT xs lo hi)) c3
  | _ => False) := id rfl
theorem wApp_d {Φ : WF} {f : WA} : wApp Φ f τ c Q = (f τ c fun ts c1 => Φ ts c1 Q) := id rfl
theorem wAppK_d {Φ : WF} {is : List Nat} {a b : Nat} {f g : WA} : wAppK Φ is a b f g τ c Q = (f τ c fun ts c1 => g τ c1 fun us c2 => (ts.length = a ∧ us.length = b) ∧ Φ (sel is (ts ++ us)) c2 Q) := id rfl
theorem wIsi_d {k : Ty} {f : WE} : wIsi k f τ c Q = (f τ c fun x k1 => match x.ty with | some t => Q (.bl (isSub t k)) k1 | none => False) := id rfl
theorem wSeq_d {f : WE} {Q : List T → Nat → Prop} : wSeq f τ c Q = (f τ c fun x c1 => match x with | .lst ts => Q ts c1 | .tup ts => Q ts c1 | _ => False) := id rfl
theorem wR1_d {f : WE} {Q : List T → Nat → Prop} : wR1 f τ c Q = (f τ c fun x c1 => match x with | .int j => (-(2 ^ 62) ≤ j ∧ j < 2 ^ 62) ∧ Q (rangeT 0 j.toNat) c1 | _ => False) := id rfl
theorem wR2_d {f g : WE} {Q : List T → Nat → Prop} : wR2 f g τ c Q = (f τ c fun x c1 => g τ c1 fun y c2 => match x, y with | .int i, .int j => (-(2 ^ 62) ≤ i ∧ i < 2 ^ 62 ∧ -(2 ^ 62) ≤ j ∧ j < 2 ^ 62) ∧ Q (rangeT i (j - i).toNat) c2 | _, _ => False) := id rfl
theorem wEnum_d {f : WE} {Q : List T → Nat → Prop} : wEnum f τ c Q = (f τ c fun x c1 => match x with | .lst ts => Q (enumT ts) c1 | .tup ts => Q (enumT ts) c1 | _ => False) := id rfl
theorem wLC_d {f : WI} {vs : List Nat} {g : WG} {t : WT} {e : WE} : wLC f vs g t e τ c Q = (f τ c fun ts c1 => wlc g t e (wipeT τ vs) ts [] c1 Q) := id rfl
theorem wgSet_d {i : Nat} {t : T} {Q : TFr → Prop} : wgSet i t τ Q = Q (τ.set i (some t)) := id rfl
theorem wgNil_d {Q : TFr → Prop} : wgNil [] τ Q = Q τ := id rfl
theorem wgCons_d {g : WG} {r : WGs} {t : T} {ts : List T} {Q : TFr → Prop} : wgCons g r (t :: ts) τ Q = (g t τ fun τ1 => r ts τ1 Q) := id rfl
theorem wgSeq_t {n : Nat} {g : WGs} {ts : List T} {Q : TFr → Prop} : wgSeq n g (.tup ts) τ Q = (ts.length = n ∧ g ts τ Q) := id rfl
theorem wgSeq_l {n : Nat} {g : WGs} {ts : List T} {Q : TFr → Prop} : wgSeq n g (.lst ts) τ Q = (ts.length = n ∧ g ts τ Q) := id rfl
theorem wsNext_d : wsNext τ c R = R (.next τ) c := id rfl
theorem wsBrk_d : wsBrk τ c R = R (.brk τ) c := id rfl
theorem wsCont_d : wsCont τ c R = R (.cont τ) c := id rfl
theorem wsSeq_d {f g : WS} : wsSeq f g τ c R = (f τ c fun fl c1 => match fl with | .next τ1 => g τ1 c1 R | fl => R fl c1) := id rfl
theorem wsIf_d {t : WT} {f g : WS} : wsIf t f g τ c R = (t τ c fun b c1 => if b = true then f τ c1 R else g τ c1 R) := id rfl
theorem wsExpr_d {f : WE} : wsExpr f τ c R = (f τ c fun _ c1 => R (.next τ) c1) := id rfl
theorem wsRet_d {f : WE} : wsRet f τ c R = (f τ c fun x c1 => R (.ret x) c1) := id rfl
theorem wsSet_d {i : Nat} {f : WE} : wsSet i f τ c R = (f τ c fun x c1 => R (.next (τ.set i (some x))) c1) := id rfl
theorem wsPar_d {i j : Nat} {f g : WE} : wsPar i j f g τ c R = (f τ c fun x c1 => g τ c1 fun y c2 => R (.next ((τ.set i (some x)).set j (some y))) c2) := id rfl
theorem wsAsg_d {f : WE} {g : WG} : wsAsg f g τ c R = (f τ c fun x c1 => g x τ fun τ1 => R (.next τ1) c1) := id rfl
theorem wsAppend_d {i : Nat} {f : WE} : wsAppend i f τ c R = (f τ c fun x c1 => match τ[i]? with | some (some (.lst xs)) => xs.length < sizeLine ∧ R (.next (τ.set i (some (.lst (xs ++ [x]))))) c1 | _ => False) := id rfl
theorem wsExtend_d {i : Nat} {f : WE} : wsExtend i f τ c R = (f τ c fun x c1 => match τ[i]?, x with | some (some (.lst xs)), .lst ys => xs.length + ys.length ≤ sizeLine ∧ R (.next (τ.set i (some (.lst (xs ++ ys))))) c1 | _, _ => False) := id rfl
theorem wsReverse_d {i : Nat} : wsReverse i τ c R = (match τ[i]? with | some (some (.lst xs)) => R (.next (τ.set i (some (.lst xs.reverse)))) c | _ => False) := id rfl
theorem wsFor_d {f : WI} {γ : WG} {β : WS} : wsFor f γ β τ c R = (f τ c fun ts c1 => wfor γ β ts τ c1 R) := id rfl
theorem wsWhile_d {m : TFr → Nat} {θ : WT} {β : WS} : wsWhile m θ β τ c R = wwhile θ β (m τ) τ c R := id rfl
theorem wFn_d {np n : Nat} {β : WS} {ts : List T} : wFn np n β ts c Q = (ts.length = np ∧ β (startT n ts) c fun fl c1 => match fl with
  | .ret t => Q t c1
  | .next _ => Q .non c1
  | _ => False) := id rfl
theorem wFnN_d {np n : Nat} {β : WS} {ts : List T} : wFnN np n β ts c Q = (ts.length = np ∧ β (startT n ts) c fun fl c1 => match fl with
  | .ret t => Q t c1
  | _ => False) := id rfl
theorem wDraw_d {n : Int} : wDraw [.pen, .int n] c Q = ((0 < n ∧ n < 10000000000000 ∧ c < 900000) ∧ ∀ r : Int, 0 ≤ r → r < n → Q (.int r) (c + 1)) := id rfl
end
section
variable {P : T → Prop} {i j : Int} {xs ys : List T}
theorem vSub_d : vSub (.int i) (.int j) P = P (.int (i - j)) := by show (True ∧ _) = _; simp
theorem vLt_d : vLt (.int i) (.int j) P = P (.bl (decide (i < j))) := by show (True ∧ _) = _; simp
theorem vLe_d : vLe (.int i) (.int j) P = P (.bl (decide (i ≤ j))) := by show (True ∧ _) = _; simp
theorem vGt_d : vGt (.int i) (.int j) P = P (.bl (decide (j < i))) := by show (True ∧ _) = _; simp
theorem vGe_d : vGe (.int i) (.int j) P = P (.bl (decide (j ≤ i))) := by show (True ∧ _) = _; simp
theorem vMax2_d : vMax2 (.int i) (.int j) P = P (.int (if j > i then j else i)) := by show (True ∧ _) = _; simp
theorem vMin2_d : vMin2 (.int i) (.int j) P = P (.int (if j < i then j else i)) := by show (True ∧ _) = _; simp
theorem vMul_d : vMulA (.int i) (.int j) P = (CMulF i j ∧ P (.int (i * j))) := id rfl
theorem vMul_t : vMulA (.tup xs) (.int j) P = ((xs ≠ [] ∧ 1 ≤ j ∧ j < 1000000 ∧ xs.length * j.toNat ≤ sizeLine) ∧ P (.tup (List.replicate j.toNat xs).flatten)) := id rfl
theorem vMul_l : vMulA (.lst xs) (.int j) P = ((0 ≤ j ∧ j < 1000000 ∧ xs.length * j.toNat ≤ sizeLine) ∧ P (.lst (List.replicate j.toNat xs).flatten)) := id rfl
theorem vAdd_d : vAdd (.int i) (.int j) P = P (.int (i + j)) := id rfl
theorem vAdd_t : vAdd (.tup xs) (.tup ys) P = (xs.length + ys.length ≤ sizeLine ∧ P (.tup (xs ++ ys))) := id rfl
theorem vAdd_l : vAdd (.lst xs) (.lst ys) P = (xs.length + ys.length ≤ sizeLine ∧ P (.lst (xs ++ ys))) := id rfl
theorem vCat_d : vCat (.lst xs) (.lst ys) P = (xs.length + ys.length ≤ sizeLine ∧ P (.lst (xs ++ ys))) := id rfl
theorem CMulF.l (h1 : -18446744073709551616 < i) (h2 : i < 18446744073709551616) : CMulF i j := .inl (.inl ⟨h1, h2⟩)
theorem CMulF.r (h1 : -18446744073709551616 < j) (h2 : j < 18446744073709551616) : CMulF i j := .inl (.inr ⟨h1, h2⟩)
theorem CMulF.f (h1 : Few i) (h2 : Few j) : CMulF i j := .inr ⟨h1, h2⟩
theorem vMul_c (h : CMulF i j) : vMulA (.int i) (.int j) P = P (.int (i * j)) := by rw [vMul_d]; simp [h]
theorem vFdiv_x (h1 : j ≠ 0) (h2 : j.natAbs < 2 ^ 9000) (hd : j ∣ i) : vFdiv (.int i) (.int j) P = P (.int (i / j)) := by
  show (CDivF i j ∧ P (.int (i.fdiv j))) = _
  rw [Int.fdiv_eq_ediv_of_dvd hd]
  simp [show CDivF i j from ⟨h1, log2_9000 h2⟩]
theorem vMod_p (h1 : 0 < j) : vMod (.int i) (.int j) P = P (.int (i % j)) := by
  show (j ≠ 0 ∧ P (.int (i.fmod j))) = _
  rw [Int.fmod_eq_emod_of_nonneg _ (by omega)]
  simp [show j ≠ 0 by omega]
theorem vPow_s (h0 : 0 ≤ j) (h1 : j ≤ 1000000) (h2 : i.natAbs < 18446744073709551616) : vPow (.int i) (.int j) P = P (.int (i ^ j.toNat)) := by
  show (CPow i j ∧ P (.int (i ^ j.toNat))) = _
  simp [show CPow i j from ⟨h0, h1, h2⟩]
theorem vEq_i : vEq (.int i) (.int j) P = P (.bl (i == j)) := by
  show (T.okq _ ∧ T.okq _ ∧ P (.bl (PyData.eqv (.int i) (.int j)))) = _
  have k : ∀ i, T.okq (.int i) := fun i => ⟨rfl, Nat.zero_le _⟩
  simp [k, PyData.eqv]
theorem vNe_i : vNe (.int i) (.int j) P = P (.bl (!(i == j))) := by
  show (T.okq _ ∧ T.okq _ ∧ P (.bl (!PyData.eqv (.int i) (.int j)))) = _
  have k : ∀ i, T.okq (.int i) := fun i => ⟨rfl, Nat.zero_le _⟩
  simp [k, PyData.eqv]
theorem vEq_s {a b : Str} : vEq (.str a) (.str b) P = P (.bl (decide (a = b))) := id rfl
theorem vNe_s {a b : Str} : vNe (.str a) (.str b) P = P (.bl (!decide (a = b))) := id rfl
theorem vEq_o {x y : T} (hx : x.okq) (hy : y.okq) (h : (∀ a b, x = .str a → y = .str b → False)) : vEq x y P = P (.bl (PyData.eqv x.pd y.pd)) := by
  unfold vEq
  split
  · exact (h _ _ rfl rfl).elim
  · simp [hx, hy]
theorem vNe_o {x y : T} (hx : x.okq) (hy : y.okq) (h : (∀ a b, x = .str a → y = .str b → False)) : vNe x y P = P (.bl (!PyData.eqv x.pd y.pd)) := by
  unfold vNe
  split
  · exact (h _ _ rfl rfl).elim
  · simp [hx, hy]
theorem vIx_t : vIx (.tup xs) (.int i) P = tAt xs i P := id rfl
theorem vIx_l : vIx (.lst xs) (.int i) P = tAt xs i P := id rfl
theorem tAt_n {t : T} (h0 : 0 ≤ i) (e : xs[i.toNat]? = some t) : tAt xs i P = P t := by
  have hl : i.toNat < xs.length := (List.getElem?_eq_some_iff.mp e).1
  have : atI xs i = some t := by
    unfold atI ixN
    rw [if_pos h0, if_pos (by omega)]
    exact e
  unfold tAt
  rw [this]
theorem tAt_0 {t : T} : tAt (t :: xs) 0 P = P t := tAt_n (by decide) rfl
theorem tAt_1 {t t1 : T} : tAt (t :: t1 :: xs) 1 P = P t1 := tAt_n (by decide) rfl
theorem tAt_2 {t t1 t2 : T} : tAt (t :: t1 :: t2 :: xs) 2 P = P t2 := tAt_n (by decide) rfl
theorem vAbs_d : vAbs (.int i) P = P (.int (if i < 0 then -i else i)) := id rfl
theorem vLen_t : vLen (.tup xs) P = P (.int xs.length) := id rfl
theorem vLen_l : vLen (.lst xs) P = P (.int xs.length) := id rfl
theorem vTuple_l : vTuple (.lst xs) P = P (.tup xs) := id rfl
theorem vTuple_t : vTuple (.tup xs) P = P (.tup xs) := id rfl
theorem vList_l : vList (.lst xs) P = P (.lst xs) := id rfl
theorem vList_t : vList (.tup xs) P = P (.lst xs) := id rfl
theorem vInt_b {b : Bool} : vInt (.bl b) P = P (.int (if b then 1 else 0)) := id rfl
theorem vInt_i : vInt (.int i) P = P (.int i) := id rfl
theorem vRepr_d {x : T} : vRepr x P = (x.okr ∧ P (.str x.pd.shown)) := id rfl
theorem vRepr_o {x : T} (h : x.okr) : vRepr x P = P (.str x.pd.shown) := by rw [vRepr_d]; simp [h]
theorem vNotB_d {a b : Bool} : vNotB (.bl a) (.bl b) P = P (.bl (!decide (a = b))) := id rfl
theorem vIsN_d {x y : T} : vIsN x y P = P (.bl x.isN) := id rfl
theorem vNotN_d {x y : T} : vNotN x y P = P (.bl (!x.isN)) := id rfl
end
theorem wfor_nil {γ : WG} {β : WS} {τ : TFr} {c : Nat} {R : QS} : wfor γ β [] τ c R = R (.next τ) c := id rfl
theorem wfor_cons {γ : WG} {β : WS} {x : T} {xs : List T} {τ : TFr} {c : Nat} {R : QS} : wfor γ β (x :: xs) τ c R = (γ x τ fun τ1 => β τ1 c fun fl c1 => match fl with
    | .next τ2 => wfor γ β xs τ2 c1 R
    | .cont τ2 => wfor γ β xs τ2 c1 R
    | .brk τ2 => R (.next τ2) c1
    | .ret t => R (.ret t) c1) := id rfl
theorem wfor_inv {γ : WG} {β : WS} {R : QS} {all : List T} (Inv : Nat → TFr → Nat → Prop)
    (hs : ∀ (i : Nat) (x : T) (τ : TFr) (c : Nat) (K : QS), all[i]? = some x → Inv i τ c → (∀ τ2 c1, Inv (i + 1) τ2 c1 → K (.next τ2) c1) → (∀ τ2 c1, Inv (i + 1) τ2 c1 → K (.cont τ2) c1) → (∀ t c1, R (.ret t) c1 → K (.ret t) c1) → (∀ τ2 c1, R (.next τ2) c1 → K (.brk τ2) c1) → γ x τ fun τ1 => β τ1 c K)
    (hq : ∀ τ c, Inv all.length τ c → R (.next τ) c) {τ : TFr} {c : Nat} (h0 : Inv 0 τ c) : wfor γ β all τ c R := by
  have key : ∀ (xs : List T) (i : Nat) (τ : TFr) (c : Nat), all.drop i = xs → i ≤ all.length → Inv i τ c → wfor γ β xs τ c R := by
    intro xs
    induction xs with
    | nil =>
      intro i τ c e l I
      have : i = all.length := by
        have := congrArg List.length e
        simp at this; omega
      subst this
      exact hq τ c I
    | cons x xs ih =>
      intro i τ c e l I
      have hi : i < all.length := by
        have := congrArg List.length e
        simp at this; omega
      have hx : all[i]? = some x := by
        rw [List.drop_eq_getElem_cons hi] at e
        cases e
        exact List.getElem?_eq_getElem hi
      have e' : all.drop (i + 1) = xs := by
        rw [List.drop_eq_getElem_cons hi] at e
        cases e; rfl
      rw [wfor_cons]
      exact hs i x τ c _ hx I (fun τ2 c1 I2 => ih (i + 1) τ2 c1 e' (by omega) I2) (fun τ2 c1 I2 => ih (i + 1) τ2 c1 e' (by omega) I2) (fun t c1 h => h) (fun τ2 c1 h => h)
  exact key all 0 τ c rfl (Nat.zero_le _) h0
theorem wwhile_s {θ : WT} {β : WS} {n : Nat} {τ : TFr} {c : Nat} {R : QS} : wwhile θ β (n + 1) τ c R = (θ τ c fun b c1 => if b = true then β τ c1 fun fl c2 => (match fl with
    | .next τ2 => wwhile θ β n τ2 c2 R
    | .cont τ2 => wwhile θ β n τ2 c2 R
    | .brk τ2 => R (.next τ2) c2
    | .ret t => R (.ret t) c2) else R (.next τ) c1) := id rfl
theorem euclidT {θ : WT} {β : WS} (mk : Int → Int → TFr) (ht : ∀ (n m : Int) (c : Nat) (K : Bool → Nat → Prop), 0 ≤ n → 0 ≤ m → θ (mk n m) c K = K (decide (m ≠ 0)) c) (hb : ∀ (n m : Int) (c : Nat) (K : QS), 0 ≤ n → 0 < m → β (mk n m) c K = K (.next (mk m (n % m))) c) :
    ∀ (f : Nat) (n m : Int) (c : Nat) (R : QS), 0 ≤ n → 0 ≤ m → m.natAbs < f → wwhile θ β f (mk n m) c R = R (.next (mk (Int.gcd n m) 0)) c
  | 0, n, m, c, R, _, _, hf => by omega
  | f + 1, n, m, c, R, hn, hm, hf => by
    rw [wwhile_s, ht n m c _ hn hm]
    by_cases h0 : m = 0
    · subst h0
      rw [decide_eq_false (by simp), if_neg Bool.false_ne_true]
      simp only [Int.gcd_zero_right]
      rw [Int.natAbs_of_nonneg hn]
    · have hp : 0 < m := by omega
      rw [decide_eq_true h0, if_pos rfl, hb n m c _ hn hp]
      have h1 := Int.emod_nonneg n h0
      have h2 := Int.emod_lt_of_pos n hp
      show wwhile θ β f (mk m (n % m)) c R = _
      rw [euclidT mk ht hb f m (n % m) c R hm h1 (by omega), gcd_step n m hn hp]
theorem rangeT_get {n i : Nat} {x : T} (h : (rangeT 0 n)[i]? = some x) : i < n ∧ x = .int i := by
  unfold rangeT at h
  rw [List.getElem?_map] at h
  cases q : (List.range n)[i]? with
  | none => rw [q] at h; cases h
  | some j =>
    rw [q] at h
    have hi : i < n := by have := (List.getElem?_eq_some_iff.mp q).1; simpa using this
    simp [hi] at q
    subst q
    simp at h
    exact ⟨hi, h.symm⟩
def shT (q : Rat) : T := .tup [.int q.num, .int q.den]
theorem vIx_sh0 {q : Rat} {P : T → Prop} : vIx (shT q) (.int 0) P = P (.int q.num) := by unfold shT; rw [vIx_t, tAt_0]
theorem vIx_sh1 {q : Rat} {P : T → Prop} : vIx (shT q) (.int 1) P = P (.int q.den) := by unfold shT; rw [vIx_t, tAt_1]
theorem okq_sh (q : Rat) : (shT q).okq := ⟨rfl, by simp [shT, T.dep, T.deps]⟩
theorem pd_sh (q : Rat) : (shT q).pd = shP q := rfl
theorem vEq_sh {p q : Rat} {P : T → Prop} : vEq (shT p) (shT q) P = P (.bl (decide (p = q))) := by
  rw [vEq_o (okq_sh p) (okq_sh q) (fun a b e => by cases e), pd_sh, pd_sh, eqv_sh]
theorem vNe_sh {p q : Rat} {P : T → Prop} : vNe (shT p) (shT q) P = P (.bl (!decide (p = q))) := by
  rw [vNe_o (okq_sh p) (okq_sh q) (fun a b e => by cases e), pd_sh, pd_sh, eqv_sh]
theorem few_num {k : Nat} {q : Rat} (s : Sz k q) (hk : k ≤ 1000000) : Few q.num := few_pow s.num hk
theorem few_den {k : Nat} {q : Rat} (s : Sz k q) (hk : k ≤ 1000000) : Few (q.den : Int) := few_pow (k := k) (by simpa using s.den) hk
theorem pow9 {k : Nat} (h : k ≤ 9000) : (2 : Nat) ^ k ≤ 2 ^ 9000 := Nat.pow_le_pow_right (by decide) h
structure Sm (m w : Nat) (t : T) : Prop where
  rb : t.repb = true
  dp : t.dep ≤ m
  ty : tinyZ t.pd = true
  wt : t.pd.weight ≤ w
theorem Sm.mono {m w m' w' : Nat} {t : T} (s : Sm m w t) (hm : m ≤ m') (hw : w ≤ w') : Sm m' w' t := ⟨s.rb, Nat.le_trans s.dp hm, s.ty, Nat.le_trans s.wt hw⟩
theorem Sm.okr {m w : Nat} {t : T} (s : Sm m w t) (hm : m ≤ 39) (hw : w ≤ 8000) : t.okr := by
  refine ⟨s.rb, Nat.le_trans s.dp hm, tinyZ_showable _ s.ty, ?_⟩
  have := PyData.shown_le 1922 (by decide) _ (tinyZ_short _ s.ty)
  have := s.wt
  rw [sizeLine_eq]
  omega
theorem Sm.non : Sm 0 0 .non := ⟨rfl, Nat.le_refl _, rfl, by simp [T.pd, PyData.weight]⟩
theorem Sm.bl (b : Bool) : Sm 0 0 (.bl b) := ⟨rfl, Nat.le_refl _, rfl, by simp [T.pd, PyData.weight]⟩
theorem Sm.int {i : Int} {k : Nat} (hi : i.natAbs < 2 ^ k) (hk : 0 < k) (hk2 : k ≤ 1900) : Sm 0 k (.int i) :=
  ⟨rfl, Nat.le_refl _, by have := log2_of hi hk; simp only [T.pd, tinyZ, decide_eq_true_eq]; omega, weight_int hi hk⟩
theorem Sm.all {m w : Nat} : ∀ {xs : List T}, (∀ x ∈ xs, Sm m w x) → T.repbs xs = true ∧ T.deps xs ≤ m ∧ tinyZs (T.pds xs) = true ∧ PyData.weightAll (T.pds xs) ≤ xs.length * (w + 1)
  | [], _ => ⟨rfl, Nat.zero_le _, rfl, by simp [T.pds, PyData.weightAll]⟩
  | x :: xs, h => by
    obtain ⟨a, b, c, d⟩ := h x (by simp)
    obtain ⟨a', b', c', d'⟩ := Sm.all (xs := xs) fun y hy => h y (List.mem_cons_of_mem _ hy)
    refine ⟨by simp only [T.repbs, a, a', Bool.and_self], by simp only [T.deps]; omega, by simp only [T.pds, tinyZs, c, c', Bool.and_self], ?_⟩
    simp only [T.pds, PyData.weightAll, List.length_cons, Nat.add_mul]
    omega
theorem Sm.tup {m w n : Nat} {xs : List T} (h : ∀ x ∈ xs, Sm m w x) (hn : xs.length ≤ n) : Sm (m + 1) (n * (w + 1)) (.tup xs) := by
  obtain ⟨a, b, c, d⟩ := Sm.all h
  have := Nat.mul_le_mul_right (w + 1) hn
  exact ⟨by simpa only [T.repb] using a, by simp only [T.dep]; omega, by simpa only [T.pd, tinyZ] using c, by simp only [T.pd, PyData.weight]; omega⟩
theorem Sm.lst {m w n : Nat} {xs : List T} (h : ∀ x ∈ xs, Sm m w x) (hn : xs.length ≤ n) : Sm (m + 1) (n * (w + 1)) (.lst xs) := by
  obtain ⟨a, b, c, d⟩ := Sm.all h
  have := Nat.mul_le_mul_right (w + 1) hn
  exact ⟨by simpa only [T.repb] using a, by simp only [T.dep]; omega, by simpa only [T.pd, tinyZ] using c, by simp only [T.pd, PyData.weight]; omega⟩
theorem Sm.sh {k : Nat} {q : Rat} (s : Sz k q) (hk : 0 < k) (hk2 : k ≤ 1900) : Sm 1 (2 * (k + 1)) (shT q) := by
  refine Sm.tup (m := 0) (w := k) (n := 2) (fun x hx => ?_) (by simp)
  simp only [List.mem_cons, List.not_mem_nil, or_false] at hx
  rcases hx with rfl | rfl
  · exact Sm.int s.num hk hk2
  · exact Sm.int (by simpa using s.den) hk hk2
end EV
set_option Elab.async false
set_option linter.all false
set_option autoImplicit false
set_option maxRecDepth 100000
namespace EV
open PySem PySem.Spec L2
def farQ (p q : Rat) : Rat := p + q - 2 * (p * q)
theorem rat_div (p : Rat) : p = ((p.num : Int) : Rat) / (((p.den : Nat) : Int) : Rat) := by rw [← Rat.divInt_eq_div, Rat.num_divInt_den]
theorem den_ne0 (p : Rat) : (((p.den : Nat) : Int) : Rat) ≠ 0 := by
  have := p.den_nz
  intro h
  have h2 := congrArg Rat.num h
  simp at h2
  exact this h2
theorem farQ_is (p q : Rat) : farQ p q = Rat.divInt (p.num * (q.den - q.num) + q.num * (p.den - p.num)) (p.den * q.den) := by
  have hp := den_ne0 p
  have hq := den_ne0 q
  rw [Rat.divInt_eq_div]
  have e1 := rat_div p
  have e2 := rat_div q
  unfold farQ
  simp only [Rat.intCast_add, Rat.intCast_mul, Rat.intCast_sub]
  generalize (((p.den : Nat) : Int) : Rat) = y at *
  generalize (((q.den : Nat) : Int) : Rat) = v at *
  generalize ((p.num : Int) : Rat) = x at *
  generalize ((q.num : Int) : Rat) = u at *
  subst e1 e2
  grind
structure Gap (k : Nat) (q : Rat) : Prop where
  sz : Sz k q
  lo : 0 ≤ q.num
  hi : 2 * q.num ≤ q.den
theorem Gap.far {k l : Nat} {p q : Rat} (a : Gap k p) (b : Gap l q) : Gap (k + l) (farQ p q) := by
  have pd := p.den_nz
  have qd := q.den_nz
  obtain ⟨⟨pn, pz⟩, pl, ph⟩ := a
  obtain ⟨⟨qn, qz⟩, ql, qh⟩ := b
  have hd : ((p.den : Int) * (q.den : Int)) ≠ 0 := den_ne p q
  have hpos : 0 < (p.den : Int) * (q.den : Int) := Int.mul_pos (by omega) (by omega)
  generalize hN : p.num * (q.den - q.num) + q.num * (p.den - p.num) = N
  have hN0 : 0 ≤ N := by rw [← hN]; exact Int.add_nonneg (Int.mul_nonneg pl (by omega)) (Int.mul_nonneg ql (by omega))
  have hN1 : 2 * N ≤ (p.den : Int) * q.den := by
    rw [← hN]
    have h1 : 0 ≤ ((p.den : Int) - 2 * p.num) * ((q.den : Int) - 2 * q.num) := Int.mul_nonneg (by omega) (by omega)
    have : ((p.den : Int) - 2 * p.num) * ((q.den : Int) - 2 * q.num) = (p.den : Int) * q.den - 2 * (p.num * (q.den - q.num) + q.num * (p.den - p.num)) := by grind
    omega
  rw [farQ_is, hN]
  have hb : ((p.den : Int) * (q.den : Int)).natAbs < 2 ^ (k + l) := by
    rw [Int.natAbs_mul]; exact mul_lt_pow pz qz
  refine ⟨Sz.divInt hd (by omega) hb, ?_, ?_⟩
  · rw [div_num hd, if_neg (by omega)]
    exact Int.ediv_nonneg hN0 (by omega)
  · rw [div_num hd, div_den hd, if_neg (by omega), if_neg (by omega)]
    have d1 : (Int.gcd N ((p.den : Int) * q.den) : Int) ∣ N := Int.gcd_dvd_left _ _
    have d2 : (Int.gcd N ((p.den : Int) * q.den) : Int) ∣ (p.den : Int) * q.den := Int.gcd_dvd_right _ _
    have g : (0 : Int) < (Int.gcd N ((p.den : Int) * q.den) : Int) := by have := gcd_pos' (a := N) hd; omega
    generalize (Int.gcd N ((p.den : Int) * q.den) : Int) = G at *
    obtain ⟨a, rfl⟩ := d1
    obtain ⟨b, hb'⟩ := d2
    rw [hb'] at hN1 ⊢
    have g' : 0 < G := g
    rw [Int.mul_ediv_cancel_left _ (by omega), Int.mul_ediv_cancel_left _ (by omega)]
    have : G * (2 * a) ≤ G * b := by
      have : G * (2 * a) = 2 * (G * a) := by grind
      omega
    exact Int.le_of_mul_le_mul_left this g'
theorem Gap.mono {k l : Nat} {q : Rat} (a : Gap k q) (h : k ≤ l) : Gap l q := ⟨a.sz.mono h, a.lo, a.hi⟩
theorem Gap.zero : Gap 1 0 := ⟨Sz.zero, by decide, by decide⟩
theorem Gap.divInt {a b : Int} {k : Nat} (hb : 0 < b) (h0 : 0 ≤ a) (h1 : 2 * a ≤ b) (hz : b.natAbs < 2 ^ k) : Gap k (Rat.divInt a b) := by
  have hd : b ≠ 0 := by omega
  refine ⟨Sz.divInt hd (by omega) hz, ?_, ?_⟩
  · rw [div_num hd, if_neg (by omega)]
    exact Int.ediv_nonneg h0 (by omega)
  · rw [div_num hd, div_den hd, if_neg (by omega), if_neg (by omega)]
    have d1 : (Int.gcd a b : Int) ∣ a := Int.gcd_dvd_left _ _
    have d2 : (Int.gcd a b : Int) ∣ b := Int.gcd_dvd_right _ _
    have g : (0 : Int) < (Int.gcd a b : Int) := by have := gcd_pos' (a := a) hd; omega
    generalize (Int.gcd a b : Int) = G at *
    obtain ⟨x, rfl⟩ := d1
    obtain ⟨y, rfl⟩ := d2
    have g' : 0 < G := g
    rw [Int.mul_ediv_cancel_left _ (by omega), Int.mul_ediv_cancel_left _ (by omega)]
    have : G * (2 * x) ≤ G * y := by
      have : G * (2 * x) = 2 * (G * x) := by grind
      omega
    exact Int.le_of_mul_le_mul_left this g'
end EV
set_option Elab.async false
set_option linter.all false
set_option autoImplicit false
set_option maxRecDepth 100000
namespace EV
open PySem PySem.Spec L2
def penO (c : Nat) (a l : Int) : AO := .lst [.ref c, .int a, .int l]
structure Pen (h : AH) (p c : Nat) (cs : List Int) (a l : Int) : Prop where
  pen : h[p]? = some (penO c a l)
  cells : h[c]? = some (.lst (cs.map D.int))
  ne : c ≠ p
  a0 : 0 ≤ a
  l0 : 0 ≤ l
theorem Pen.set {h : AH} {p c : Nat} {cs : List Int} {a l a' l' : Int} (P : Pen h p c cs a l) (a0 : 0 ≤ a') (l0 : 0 ≤ l') : Pen (h.set p (penO c a' l')) p c cs a' l' := by
  have hpl : p < h.length := (List.getElem?_eq_some_iff.mp P.pen).1
  exact ⟨List.getElem?_set_self hpl, by rw [List.getElem?_set_ne (Ne.symm P.ne)]; exact P.cells, P.ne, a0, l0⟩
theorem Pen.app {h : AH} {p c : Nat} {cs : List Int} {a l : Int} (P : Pen h p c cs a l) (g : AH) : Pen (h ++ g) p c cs a l := by
  have hpl : p < h.length := (List.getElem?_eq_some_iff.mp P.pen).1
  have hcl : c < h.length := (List.getElem?_eq_some_iff.mp P.cells).1
  exact ⟨by rw [List.getElem?_append_left hpl]; exact P.pen, by rw [List.getElem?_append_left hcl]; exact P.cells, P.ne, P.a0, P.l0⟩
theorem Pen.pl {h : AH} {p c : Nat} {cs : List Int} {a l : Int} (P : Pen h p c cs a l) : p < h.length := (List.getElem?_eq_some_iff.mp P.pen).1
theorem Pen.cl {h : AH} {p c : Nat} {cs : List Int} {a l : Int} (P : Pen h p c cs a l) : c < h.length := (List.getElem?_eq_some_iff.mp P.cells).1
theorem Pen.cut {h : AH} {p c : Nat} {cs : List Int} {a l : Int} (P : Pen h p c cs a l) (a' l' : Int) (g : AH) (v : D) (hv : below h.length v = true) : EV.cut h (h.set p (penO c a' l') ++ g) v = h.set p (penO c a' l') := by
  refine cut_app (by simp) hv fun i hi => ?_
  by_cases q : p = i
  · subst q
    exact .inr ⟨_, List.getElem?_set_self P.pl, by simp [penO, belowO, EV.belows, EV.below, P.cl]⟩
  · rw [List.getElem?_set_ne q]; exact .inl rfl
theorem pen_ix {h : AH} {p c : Nat} {a l : Int} (e : h[p]? = some (penO c a l)) : oIx (.ref p) (.int 0) h = .ok (.ref c) h ∧ oIx (.ref p) (.int 1) h = .ok (.int a) h ∧ oIx (.ref p) (.int 2) h = .ok (.int l) h :=
  ⟨by rw [oIx_ref e]; exact seqAt_n (i := 0) (by decide) rfl, by rw [oIx_ref e]; exact seqAt_n (i := 1) (by decide) rfl, by rw [oIx_ref e]; exact seqAt_n (i := 2) (by decide) rfl⟩
theorem pen_st {h : AH} {p c : Nat} {a l : Int} (e : h[p]? = some (penO c a l)) (x : Int) : setD (.ref p) (.int 1) (.int x) h = .ok () (h.set p (penO c x l)) ∧ setD (.ref p) (.int 2) (.int x) h = .ok () (h.set p (penO c a x)) := by
  unfold penO at e
  exact ⟨by simp only [setD, e]; rfl, by simp only [setD, e]; rfl⟩
theorem canLay_ints : ∀ is : List Int, PyData.canLayAll0 (is.map PyData.int) = true
  | [] => rfl
  | i :: is => by simp only [List.map_cons, PyData.canLayAll0, PyData.canLay0, canLay_ints is]; rfl
theorem ne_nil {h : AH} {c n : Nat} {cs : List Int} (e : h[c]? = some (.lst (cs.map D.int))) (e2 : h[n]? = some (.lst [])) : oNe (.ref c) (.ref n) h = .ok (.bl (!decide (cs = []))) h := by
  show dataOp _ (.ref c) (.ref n) h = _
  have t1 : toP h deep (.ref c) = some (.list (cs.map .int)) := by
    show toP h (38 + 1 + 1) (.ref c) = _
    simp only [toP, e, toPs_ints]; rfl
  have t2 : toP h deep (.ref n) = some (.list []) := by
    show toP h (38 + 1 + 1) (.ref n) = _
    simp only [toP, e2, toPs]; rfl
  have s1 : SeqAt.shaped (.list (cs.map .int)) = true := by
    simp only [SeqAt.shaped, PyData.canLay0, canLay_ints, PyData.depth, depth_ints]; rfl
  simp only [dataOp, t1, t2]
  rw [if_pos ⟨s1, rfl⟩]
  cases cs <;> rfl
def DrawOk (F : BF) : Prop := ∀ (h : AH) (p c : Nat) (cs : List Int) (a l n : Int), Pen h p c cs a l → 0 < n → n < 10000000000000 → a < 1000000 →
  ∃ r a' l', F [.ref p, .int n] h = .ok (.int r) (h.set p (penO c a' l')) ∧ 0 ≤ r ∧ r < n ∧ 0 ≤ a' ∧ a' ≤ a + 1 ∧ 0 ≤ l'
def LP : PenSys where
  Pn p q h c := ∃ cs a l, Pen h p q cs a l ∧ a ≤ (c : Int)
  loc := fun ⟨cs, a, l, P, _⟩ => ⟨P.pl, P.cl, Ne.symm P.ne⟩
  keep := fun ⟨cs, a, l, P, k⟩ e1 e2 => ⟨cs, a, l, ⟨by rw [e1]; exact P.pen, by rw [e2]; exact P.cells, P.ne, P.a0, P.l0⟩, k⟩
theorem jd_of {F : BF} (d : DrawOk F) : JF LP F wDraw := fun p q B h c ds ts Q G r w => by
  unfold wDraw at w
  split at w
  · rename_i n
    obtain ⟨⟨n0, n1, hc⟩, w⟩ := w
    cases r with
    | cons r1 r2 =>
      cases r2 with
      | cons r2 r3 =>
        cases r3
        cases r2
        cases r1 with
        | pen hl =>
          obtain ⟨cs, a, l, P, k⟩ := G.pn
          obtain ⟨x, a', l', e, x0, x1, a0, a1, l0⟩ := d h p q cs a l n P n0 n1 (by omega)
          refine ⟨.int x, _, .int x, c + 1, e, ⟨by simp, fun m l' ne => List.getElem?_set_ne (Ne.symm ne)⟩, ⟨⟨cs, a', l', P.set a0 l0, by omega⟩, G.bp, G.bq, fun m b => by rw [List.length_set]; exact G.al m b, G.cl.set ?_⟩, .int _, w x x0 x1⟩
          simp [penO, belowO, EV.belows, EV.below, P.cl]
  · exact w.elim
theorem top_of {S : PenSys} {σ1 : Fr} {h1 : AH} {τ1 : TFr} {p q : Nat} {B : Nat → Prop} {f g : SF} {φ : WS} {σ0 : Fr} {h0 : AH} (e1 : f σ0 h0 = .ok (.next σ1) h1) (G : Good S p q B h1 0) (r : RF p B h1.length [] h1 σ1 τ1) (j : JS S false [] [] [] g φ)
    (w : φ τ1 0 fun fl _ => fl = .ret (.bl true)) : ∃ h', sSeq f g σ0 h0 = .ok (.ret (.bl true)) h' := by
  obtain ⟨pl, ql, _⟩ := S.loc G.pn
  obtain ⟨fl, h', tfl, c', B', e, st, rf, k⟩ := j p q h1.length B h1 0 σ1 τ1 _ G pl ql (Nat.le_refl _) r w
  subst k
  cases rf with
  | ret rf =>
    cases rf with
    | val rv => cases rv; exact ⟨h', by rw [seq_n e1, e]⟩
    | own _ o => cases o
theorem RF.pen0 {p L : Nat} {B : Nat → Prop} {h : AH} {σ : Fr} {i : Nat} (hl : p < h.length) (hp : σ[i]? = some (some (.ref p))) : RF p B L [] h σ ((List.replicate σ.length none).set i (some .pen)) := by
  refine ⟨by simp, fun j t _ e => ?_, fun j t hj => (List.not_mem_nil hj).elim, fun j k m t u hj => (List.not_mem_nil hj).elim⟩
  by_cases z : i = j
  · subst z
    have : i < σ.length := (List.getElem?_eq_some_iff.mp hp).1
    rw [List.getElem?_set_self (by simpa using this)] at e
    cases e
    exact ⟨_, hp, .pen hl⟩
  · rw [List.getElem?_set_ne z, List.getElem?_replicate] at e
    split at e <;> cases e
end EV
set_option Elab.async false
set_option linter.all false
set_option autoImplicit false
set_option maxRecDepth 100000
namespace EV
open PySem PySem.Spec L2
def hQ : Rat := Rat.divInt 1 2
theorem Sz.h : Sz 2 hQ := ⟨by decide, by decide⟩
theorem Sz.two : Sz 2 2 := ⟨by decide, by decide⟩
theorem Gap.h : Gap 2 hQ := ⟨Sz.h, by decide, by decide⟩
end EV
set_option Elab.async false
set_option linter.all false
set_option autoImplicit false
set_option maxRecDepth 100000
namespace EV
open PySem PySem.Spec L2
def botStep (b : Int) (q : Rat) : Int := if b % (q.den : Int) ≠ 0 then b * ((q.den : Int) / (Int.gcd b q.den : Int)) else b
def botQ (qs : List Rat) : Int := qs.foldl botStep 1
structure Bot (k : Nat) (b : Int) : Prop where
  pos : 0 < b
  lt : b.natAbs < 2 ^ k
theorem den_div_pos {b : Int} {q : Rat} : 0 < (q.den : Int) / (Int.gcd b q.den : Int) := by
  have hd : (q.den : Int) ≠ 0 := by have := q.den_nz; omega
  have hg : (0 : Int) < (Int.gcd b q.den : Int) := by have := gcd_pos' (a := b) hd; omega
  exact Int.ediv_pos_of_pos_of_dvd (by have := q.den_nz; omega) (by omega) (Int.gcd_dvd_right _ _)
theorem Bot.step {k l : Nat} {b : Int} {q : Rat} (h : Bot k b) (s : Sz l q) : Bot (k + l) (botStep b q) := by
  unfold botStep
  split
  · refine ⟨Int.mul_pos h.pos den_div_pos, ?_⟩
    rw [Int.natAbs_mul]
    refine mul_lt_pow h.lt (Nat.lt_of_le_of_lt ?_ s.den)
    rw [Int.natAbs_ediv_of_dvd (Int.gcd_dvd_right _ _)]
    exact Nat.div_le_self _ _
  · exact ⟨h.pos, Nat.lt_of_lt_of_le h.lt (pow_le (by omega))⟩
theorem Bot.fold {l : Nat} : ∀ (qs : List Rat) {k : Nat} {b : Int}, Bot k b → (∀ q ∈ qs, Sz l q) → Bot (k + l * qs.length) (qs.foldl botStep b)
  | [], k, b, h, _ => by simpa using h
  | q :: qs, k, b, h, hq => by
    rw [List.foldl_cons]
    have := Bot.fold qs (h.step (hq q (by simp))) fun x hx => hq x (List.mem_cons_of_mem _ hx)
    have e : k + l + l * qs.length = k + l * (q :: qs).length := by simp only [List.length_cons, Nat.mul_add]; omega
    rw [e] at this
    exact this
theorem Bot.q {l : Nat} {qs : List Rat} (hq : ∀ q ∈ qs, Sz l q) : Bot (1 + l * qs.length) (botQ qs) := Bot.fold qs ⟨by decide, by decide⟩ hq
theorem sum_fold : ∀ (qs : List Rat) (z : Rat), qs.foldl (· + ·) z = z + sumQ qs
  | [], z => by unfold sumQ; rw [List.foldl_nil, List.foldl_nil, Rat.add_zero]
  | q :: qs, z => by
    unfold sumQ
    rw [List.foldl_cons, List.foldl_cons, sum_fold qs (z + q), sum_fold qs (0 + q), Rat.zero_add, Rat.add_assoc]
theorem sumQ_cons (q : Rat) (qs : List Rat) : sumQ (q :: qs) = q + sumQ qs := by
  conv => lhs; unfold sumQ
  rw [List.foldl_cons, sum_fold, Rat.zero_add]
theorem pick {L : List T} {P : T → Prop} (h : ∀ x ∈ L, P x) {r : Int} (h0 : 0 ≤ r) (h1 : r < L.length) : ∃ x, L[r.toNat]? = some x ∧ P x := by
  have hl : r.toNat < L.length := by omega
  exact ⟨L[r.toNat], List.getElem?_eq_getElem hl, h _ (List.getElem_mem hl)⟩
theorem pick_int {L : List T} {P : Int → Prop} (h : ∀ x ∈ L, ∃ i, x = T.int i ∧ P i) {r : Int} (h0 : 0 ≤ r) (h1 : r < L.length) : ∃ i, L[r.toNat]? = some (.int i) ∧ P i := by
  obtain ⟨x, e, i, rfl, hp⟩ := pick h h0 h1
  exact ⟨i, e, hp⟩
end EV
set_option Elab.async false
set_option linter.all false
set_option autoImplicit false
set_option maxRecDepth 100000
namespace EV
open PySem PySem.Spec L2
section
variable {τ : TFr} {c : Nat} {Q : QT} {R : QS} {M : QM}
end
end EV
set_option Elab.async false
set_option linter.all false
set_option autoImplicit false
set_option maxRecDepth 100000
namespace EV
open PySem PySem.Spec L2
abbrev CRow := List (Option Int)
def known (r : CRow) (o : List Nat) : List Int := o.filterMap fun i => r.getD i none
end EV
set_option Elab.async false
set_option linter.all false
set_option autoImplicit false
set_option maxRecDepth 100000
namespace EV
open PySem PySem.Spec L2
theorem wsSeq_p {f g : WS} {τ : TFr} {c : Nat} {R : QS} (P : TFr → Nat → Prop) (hf : ∀ K : QS, (∀ τ1 c1, P τ1 c1 → K (.next τ1) c1) → (∀ t c1, R (.ret t) c1 → K (.ret t) c1) → f τ c K) (hg : ∀ τ1 c1, P τ1 c1 → g τ1 c1 R) : wsSeq f g τ c R := by
  rw [wsSeq_d]
  exact hf _ (fun τ1 c1 p => hg τ1 c1 p) (fun t c1 r => r)
end EV
set_option Elab.async false
set_option linter.all false
set_option autoImplicit false
set_option maxRecDepth 100000
namespace EV
open PySem PySem.Spec L2
def T.nopen : T → Bool | .pen => false | .exc _ _ _ => false | _ => true
def T.isInt : T → Bool | .int _ => true | _ => false
def T.tupB (a b : Int) : T → Bool | .tup xs => decide (a ≤ (xs.length : Int)) && decide ((xs.length : Int) ≤ b) | _ => false
theorem T.ty_of {x : T} (h : x.nopen = true) : ∃ y, x.ty = some y := by cases x <;> first | exact ⟨_, rfl⟩ | cases h
theorem T.repb.nopen {x : T} (h : x.repb = true) : x.nopen = true := by
  cases x with
  | pen => simp [T.repb] at h
  | exc _ _ _ => simp [T.repb] at h
  | _ => rfl
theorem repbs_mem : ∀ {xs : List T}, T.repbs xs = true → ∀ x ∈ xs, x.repb = true
  | y :: ys, h, x, hx => by
    simp only [T.repbs, Bool.and_eq_true] at h
    rcases List.mem_cons.mp hx with rfl | hx
    · exact h.1
    · exact repbs_mem h.2 x hx
theorem repb_tup {xs : List T} (h : (T.tup xs).repb = true) : ∀ x ∈ xs, x.repb = true := repbs_mem (by simpa only [T.repb] using h)
structure SmL (m w : Nat) (xs : List T) : Prop where
  rb : T.repbs xs = true
  dp : T.deps xs ≤ m
  ty : tinyZs (T.pds xs) = true
  wt : PyData.weightAll (T.pds xs) ≤ w
theorem SmL.nil {m : Nat} : SmL m 0 [] := ⟨rfl, Nat.zero_le _, rfl, by simp [T.pds, PyData.weightAll]⟩
theorem SmL.cons {m w w' : Nat} {x : T} {xs : List T} (a : Sm m w x) (b : SmL m w' xs) : SmL m (w + 1 + w') (x :: xs) := by
  obtain ⟨a1, a2, a3, a4⟩ := a
  obtain ⟨b1, b2, b3, b4⟩ := b
  refine ⟨by simp only [T.repbs, a1, b1, Bool.and_self], by simp only [T.deps]; omega, by simp only [T.pds, tinyZs, a3, b3, Bool.and_self], ?_⟩
  simp only [T.pds, PyData.weightAll]
  omega
theorem SmL.app {m w w' : Nat} : ∀ {xs ys : List T}, SmL m w xs → SmL m w' ys → SmL m (w + w') (xs ++ ys)
  | [], ys, _, b => ⟨b.rb, b.dp, b.ty, by have := b.wt; rw [List.nil_append]; omega⟩
  | x :: xs, ys, ⟨a1, a2, a3, a4⟩, b => by
    simp only [T.repbs, Bool.and_eq_true] at a1
    simp only [T.deps] at a2
    simp only [T.pds, tinyZs, Bool.and_eq_true] at a3
    simp only [T.pds, PyData.weightAll] at a4
    obtain ⟨c1, c2, c3, c4⟩ := SmL.app (xs := xs) (w := PyData.weightAll (T.pds xs)) ⟨a1.2, by omega, a3.2, Nat.le_refl _⟩ b
    refine ⟨by simp only [List.cons_append, T.repbs, a1.1, c1, Bool.and_self], by simp only [List.cons_append, T.deps]; omega, by simp only [List.cons_append, T.pds, tinyZs, a3.1, c3, Bool.and_self], ?_⟩
    simp only [List.cons_append, T.pds, PyData.weightAll]
    omega
theorem SmL.mono {m w m' w' : Nat} {xs : List T} (s : SmL m w xs) (hm : m ≤ m') (hw : w ≤ w') : SmL m' w' xs := ⟨s.rb, Nat.le_trans s.dp hm, s.ty, Nat.le_trans s.wt hw⟩
theorem SmL.one {m w : Nat} {x : T} (a : Sm m w x) : SmL m (w + 1) [x] := (SmL.cons a SmL.nil).mono (Nat.le_refl _) (by omega)
theorem SmL.of {m w : Nat} {xs : List T} (h : ∀ x ∈ xs, Sm m w x) : SmL m (xs.length * (w + 1)) xs := by
  obtain ⟨a, b, c, d⟩ := Sm.all h
  exact ⟨a, b, c, d⟩
theorem SmL.tup {m w : Nat} {xs : List T} (s : SmL m w xs) : Sm (m + 1) w (.tup xs) :=
  ⟨by simpa only [T.repb] using s.rb, by have := s.dp; simp only [T.dep]; omega, by simpa only [T.pd, tinyZ] using s.ty, by have := s.wt; simp only [T.pd, PyData.weight]; omega⟩
theorem SmL.lst {m w : Nat} {xs : List T} (s : SmL m w xs) : Sm (m + 1) w (.lst xs) :=
  ⟨by simpa only [T.repb] using s.rb, by have := s.dp; simp only [T.dep]; omega, by simpa only [T.pd, tinyZ] using s.ty, by have := s.wt; simp only [T.pd, PyData.weight]; omega⟩
theorem SmL.tl {m w : Nat} {x : T} {xs : List T} (s : SmL m w (x :: xs)) : SmL m w xs := by
  obtain ⟨a1, a2, a3, a4⟩ := s
  simp only [T.repbs, Bool.and_eq_true] at a1
  simp only [T.deps] at a2
  simp only [T.pds, tinyZs, Bool.and_eq_true] at a3
  simp only [T.pds, PyData.weightAll] at a4
  exact ⟨a1.2, by omega, a3.2, by omega⟩
theorem SmL.hd {m w : Nat} {x : T} {xs : List T} (s : SmL m w (x :: xs)) : Sm m w x := by
  obtain ⟨a1, a2, a3, a4⟩ := s
  simp only [T.repbs, Bool.and_eq_true] at a1
  simp only [T.deps] at a2
  simp only [T.pds, tinyZs, Bool.and_eq_true] at a3
  simp only [T.pds, PyData.weightAll] at a4
  exact ⟨a1.1, by omega, a3.1, by omega⟩
theorem SmL.drop {m w : Nat} : ∀ {xs : List T} (n : Nat), SmL m w xs → SmL m w (xs.drop n)
  | _, 0, s => s
  | [], _ + 1, s => s
  | _ :: _, n + 1, s => SmL.drop n s.tl
theorem SmL.take {m w : Nat} : ∀ {xs : List T} (n : Nat), SmL m w xs → SmL m w (xs.take n)
  | _, 0, s => SmL.nil.mono (Nat.le_refl _) (Nat.zero_le _)
  | [], _ + 1, s => s
  | x :: xs, n + 1, s => by
    have hd := s.hd
    obtain ⟨a1, a2, a3, a4⟩ := s
    simp only [T.repbs, Bool.and_eq_true] at a1
    simp only [T.deps] at a2
    simp only [T.pds, tinyZs, Bool.and_eq_true] at a3
    simp only [T.pds, PyData.weightAll] at a4
    obtain ⟨c1, c2, c3, c4⟩ := SmL.take (xs := xs) (m := m) (w := PyData.weightAll (T.pds xs)) n ⟨a1.2, by omega, a3.2, Nat.le_refl _⟩
    refine ⟨by simp only [List.take_succ_cons, T.repbs, a1.1, c1, Bool.and_self], by simp only [List.take_succ_cons, T.deps]; omega, by simp only [List.take_succ_cons, T.pds, tinyZs, a3.1, c3, Bool.and_self], ?_⟩
    simp only [List.take_succ_cons, T.pds, PyData.weightAll]
    omega
theorem SmL.cut {m w : Nat} {xs : List T} (s : SmL m w xs) (lo hi : Option Int) : SmL m w (cutT xs lo hi) := (s.drop _).take _
theorem SmL.rep {m w : Nat} {xs : List T} (s : SmL m w xs) : ∀ n : Nat, SmL m (n * w) (List.replicate n xs).flatten
  | 0 => by simpa using SmL.nil
  | n + 1 => by
    rw [List.replicate_succ, List.flatten_cons]
    exact (s.app (SmL.rep s n)).mono (Nat.le_refl _) (by rw [Nat.add_mul]; omega)
theorem Sm.str {x : Str} (h : x.cps.toList.all (fun c => decide (c < 1114112)) = true) {w : Nat} (hw : (T.str x).pd.weight ≤ w) : Sm 0 w (.str x) := ⟨rfl, Nat.le_refl _, h, hw⟩
theorem Sm.dct0 : Sm 0 0 (.dct []) := ⟨rfl, Nat.le_refl _, rfl, by simp [T.pd, PyData.weight, PyData.weightKv]⟩
end EV
set_option Elab.async false
set_option linter.all false
set_option autoImplicit false
set_option maxRecDepth 100000
namespace EV
open PySem PySem.Spec L2
end EV
set_option Elab.async false
set_option linter.all false
set_option autoImplicit false
set_option maxRecDepth 100000
namespace EV
open PySem PySem.Spec L2
end EV
set_option Elab.async false
set_option linter.all false
set_option autoImplicit false
set_option maxRecDepth 100000
namespace EV
open PySem PySem.Spec L2
def penLD (c : Nat) (a l : Int) : List (Key × D) := [(Sum.inr "cells", .ref c), (Sum.inr "at", .int a), (Sum.inr "left", .int l)]
def penOD (c : Nat) (a l : Int) : AO := .dct (penLD c a l)
structure PenD (h : AH) (p c : Nat) (cs : List Int) (a l : Int) : Prop where
  pen : h[p]? = some (penOD c a l)
  cells : h[c]? = some (.lst (cs.map D.int))
  ne : c ≠ p
  a0 : 0 ≤ a
  l0 : 0 ≤ l
theorem PenD.pl {h : AH} {p c : Nat} {cs : List Int} {a l : Int} (P : PenD h p c cs a l) : p < h.length := (List.getElem?_eq_some_iff.mp P.pen).1
theorem PenD.cl {h : AH} {p c : Nat} {cs : List Int} {a l : Int} (P : PenD h p c cs a l) : c < h.length := (List.getElem?_eq_some_iff.mp P.cells).1
theorem PenD.set {h : AH} {p c : Nat} {cs : List Int} {a l a' l' : Int} (P : PenD h p c cs a l) (a0 : 0 ≤ a') (l0 : 0 ≤ l') : PenD (h.set p (penOD c a' l')) p c cs a' l' :=
  ⟨List.getElem?_set_self P.pl, by rw [List.getElem?_set_ne (Ne.symm P.ne)]; exact P.cells, P.ne, a0, l0⟩
end EV
set_option Elab.async false
set_option linter.all false
set_option autoImplicit false
set_option maxRecDepth 100000
namespace EV
open PySem PySem.Spec L2
theorem Sm.el {m w : Nat} {xs : List T} (s : Sm (m + 1) w (.tup xs)) : SmL m w xs :=
  ⟨by simpa only [T.repb] using s.rb, by have := s.dp; simp only [T.dep] at this; omega, by simpa only [T.pd, tinyZ] using s.ty, by simpa only [T.pd, PyData.weight] using s.wt⟩
theorem SmL.mem {m w : Nat} : ∀ {xs : List T}, SmL m w xs → ∀ x ∈ xs, Sm m w x
  | y :: ys, s, x, hx => by
    rcases List.mem_cons.mp hx with rfl | hx
    · exact s.hd
    · exact SmL.mem s.tl x hx
end EV
set_option Elab.async false
set_option linter.all false
set_option autoImplicit false
set_option maxRecDepth 100000
namespace EV
open PySem PySem.Spec L2
def shareB : T → Bool
  | .tup [.int a, .int b] => decide (1 ≤ b) && (Int.gcd a b == 1)
  | _ => false
def shq : T → Rat
  | .tup [.int a, .int b] => Rat.divInt a b
  | _ => 0
def kindB (x : T) : Bool := shareB x && decide (0 < shq x)
def gapB (x : T) : Bool := shareB x && (!decide (shq x < 0) && !decide (hQ < shq x))
def mrkB : T → Bool
  | .tup xs => (T.tup xs).tupB 2 3 && (xs.all kindB && decide (sumQ (xs.map shq) = 1))
  | _ => false
def lineB : T → Bool
  | .tup [.tup ms, .tup gs] => ((T.tup ms).tupB 1 3 && (T.tup gs).tupB ((ms.length : Int) - 1) ((ms.length : Int) - 1)) && (ms.all mrkB && gs.all gapB)
  | _ => false
theorem tupB_two {x : T} (h : x.tupB 2 2 = true) : ∃ a b, x = .tup [a, b] := by
  cases x with
  | tup xs =>
    simp only [T.tupB, Bool.and_eq_true, decide_eq_true_eq] at h
    match xs, h with
    | [a, b], _ => exact ⟨a, b, rfl⟩
    | [], h => simp at h
    | [a], h => simp at h
    | a :: b :: c :: xs, h => simp only [List.length_cons] at h; omega
  | _ => simp [T.tupB] at h
theorem shareB_two {x : T} (h : x.tupB 2 2 = false) : shareB x = false := by
  cases q : shareB x with
  | false => rfl
  | true =>
    unfold shareB at q
    split at q
    · cases h
    · cases q
theorem shq_sh (q : Rat) : shq (shT q) = q := by
  show Rat.divInt q.num q.den = q
  exact Rat.num_divInt_den q
theorem shareB_shT (q : Rat) : shareB (shT q) = true := by
  show (decide (1 ≤ (q.den : Int)) && (Int.gcd q.num q.den == 1)) = true
  have h1 : (1 : Int) ≤ (q.den : Int) := by have := q.den_nz; omega
  have h2 : Int.gcd q.num q.den = 1 := q.reduced
  rw [decide_eq_true h1, h2]
  rfl
theorem SmL.len {m w : Nat} {xs : List T} (s : SmL m w xs) : xs.length ≤ w := by
  have key : ∀ ys : List T, ys.length ≤ PyData.weightAll (T.pds ys) := by
    intro ys
    induction ys with
    | nil => simp
    | cons y ys ih => simp only [T.pds, PyData.weightAll, List.length_cons]; omega
  exact Nat.le_trans (key xs) s.wt
theorem neg_num {q : Rat} : decide (0 ≤ 2 * q.num) = !decide (q < 0) := by
  have h := lt_dec (p := q) (q := 0)
  rw [← h]
  by_cases z : q.num < 0
  · rw [decide_eq_false (by omega), decide_eq_true (by simpa using z)]; rfl
  · rw [decide_eq_true (by omega), decide_eq_false (by simpa using z)]; rfl
theorem half_num {q : Rat} : decide (2 * q.num ≤ (q.den : Int)) = !decide (hQ < q) := by
  have h := lt_dec (p := hQ) (q := q)
  have e1 : hQ.num = 1 := by decide
  have e2 : hQ.den = 2 := by decide
  rw [← h, e1, e2]
  by_cases z : 1 * (q.den : Int) < q.num * ((2 : Nat) : Int)
  · rw [decide_eq_false (by omega), decide_eq_true z]; rfl
  · rw [decide_eq_true (by omega), decide_eq_false z]; rfl
end EV
namespace EV
open PySem PySem.Spec L2
structure Mark (qs : List Rat) : Prop where
  len2 : 2 ≤ qs.length
  len3 : qs.length ≤ 3
  sz : ∀ q ∈ qs, Sz 14 q
  pos : ∀ q ∈ qs, 0 < q
  sum : sumQ qs = 1
def markT (qs : List Rat) : T := .tup (qs.map shT)
theorem pos_div {a d : Int} (ha : 0 < a) (hd : 0 < d) : (0 : Rat) < Rat.divInt a d := by
  have hd0 : d ≠ 0 := by omega
  have h := lt_dec (p := 0) (q := Rat.divInt a d)
  have hn : 0 < (Rat.divInt a d).num := by
    rw [div_num hd0, if_neg (by omega)]
    have hg := gcd_pos' (a := a) hd0
    exact Int.ediv_pos_of_pos_of_dvd ha (by omega) (Int.gcd_dvd_left a d)
  have : decide ((0 : Rat) < Rat.divInt a d) = true := by rw [← h, decide_eq_true_eq]; simpa using hn
  exact of_decide_eq_true this
theorem sz_div {a d : Int} (h0 : 0 ≤ a) (h1 : a ≤ d) (h2 : 0 < d) (h3 : d ≤ 10000) : Sz 14 (Rat.divInt a d) :=
  Sz.divInt (by omega) (by show a.natAbs < 16384; omega) (by show d.natAbs < 16384; omega)
theorem Mark.two {a d : Int} (ha : 0 < a) (hb : a < d) (h : d ≤ 10000) : Mark [Rat.divInt a d, Rat.divInt (d - a) d] := by
  refine ⟨by simp, by simp, ?_, ?_, ?_⟩
  · intro q hq
    simp only [List.mem_cons, List.not_mem_nil, or_false] at hq
    rcases hq with rfl | rfl
    · exact sz_div (by omega) (by omega) (by omega) h
    · exact sz_div (by omega) (by omega) (by omega) h
  · intro q hq
    simp only [List.mem_cons, List.not_mem_nil, or_false] at hq
    rcases hq with rfl | rfl
    · exact pos_div ha (by omega)
    · exact pos_div (by omega) (by omega)
  · rw [sumQ_cons, sumQ_cons, show sumQ [] = 0 from rfl, Rat.add_zero, divInt_same (by omega), show a + (d - a) = d by omega, Rat.divInt_self' (by omega)]
theorem Mark.three {a b d : Int} (ha : 0 < a) (hb : 0 < b) (hc : a + b < d) (h : d ≤ 10000) : Mark [Rat.divInt a d, Rat.divInt b d, Rat.divInt (d - a - b) d] := by
  refine ⟨by simp, by simp, ?_, ?_, ?_⟩
  · intro q hq
    simp only [List.mem_cons, List.not_mem_nil, or_false] at hq
    rcases hq with rfl | rfl | rfl
    · exact sz_div (by omega) (by omega) (by omega) h
    · exact sz_div (by omega) (by omega) (by omega) h
    · exact sz_div (by omega) (by omega) (by omega) h
  · intro q hq
    simp only [List.mem_cons, List.not_mem_nil, or_false] at hq
    rcases hq with rfl | rfl | rfl
    · exact pos_div ha (by omega)
    · exact pos_div hb (by omega)
    · exact pos_div (by omega) (by omega)
  · rw [sumQ_cons, sumQ_cons, sumQ_cons, show sumQ [] = 0 from rfl, Rat.add_zero, divInt_same (by omega), divInt_same (by omega), show a + (b + (d - a - b)) = d by omega, Rat.divInt_self' (by omega)]
theorem Mark.ok {qs : List Rat} (m : Mark qs) : mrkB (markT qs) = true := by
  have h2 := m.len2
  have h3 := m.len3
  have e : (qs.map shT).map shq = qs := by
    rw [List.map_map]
    conv => rhs; rw [← List.map_id qs]
    apply List.map_congr_left
    intro q _
    exact shq_sh q
  simp only [markT, mrkB, T.tupB, List.length_map, Bool.and_eq_true, decide_eq_true_eq, e]
  refine ⟨⟨by omega, by omega⟩, ?_, m.sum⟩
  rw [List.all_eq_true]
  intro x hx
  obtain ⟨q, hq, rfl⟩ := List.mem_map.mp hx
  simp only [kindB, shareB_shT, shq_sh, Bool.true_and, decide_eq_true_eq]
  exact m.pos q hq
structure GapQ (q : Rat) : Prop where
  sz : Sz 14 q
  lo : ¬ q < 0
  hi : ¬ hQ < q
theorem GapQ.of {a d : Int} (h0 : 0 ≤ a) (h1 : 2 * a ≤ d) (h2 : 0 < d) (h3 : d ≤ 10000) : GapQ (Rat.divInt a d) := by
  have hd0 : d ≠ 0 := by omega
  have hg := gcd_pos' (a := a) hd0
  obtain ⟨u, hu⟩ := Int.gcd_dvd_left a d
  obtain ⟨v, hv⟩ := Int.gcd_dvd_right a d
  have n : (Rat.divInt a d).num = u := by
    rw [div_num hd0, if_neg (by omega)]
    exact Int.ediv_eq_of_eq_mul_right (by omega) hu
  have e : ((Rat.divInt a d).den : Int) = v := by
    rw [div_den hd0, if_neg (by omega)]
    exact Int.ediv_eq_of_eq_mul_right (by omega) hv
  have gp : (0 : Int) < (Int.gcd a d : Int) := by omega
  have u0 : 0 ≤ u := by
    rw [hu] at h0
    exact Int.nonneg_of_mul_nonneg_right h0 gp
  have uv : 2 * u ≤ v := by
    have : (Int.gcd a d : Int) * (2 * u) ≤ (Int.gcd a d : Int) * v := by
      rw [← hv, Int.mul_left_comm, ← hu]; exact h1
    exact Int.le_of_mul_le_mul_left this gp
  refine ⟨sz_div h0 (by omega) h2 h3, fun z => ?_, fun z => ?_⟩
  · have := neg_num (q := Rat.divInt a d)
    rw [decide_eq_true z, n, decide_eq_true (by omega)] at this
    cases this
  · have := half_num (q := Rat.divInt a d)
    rw [decide_eq_true z, n, e, decide_eq_true uv] at this
    cases this
structure Track (ms : List (List Rat)) (gs : List Rat) : Prop where
  len1 : 1 ≤ ms.length
  len3 : ms.length ≤ 3
  mks : ∀ qs ∈ ms, Mark qs
  gl : gs.length + 1 = ms.length
  gp : ∀ q ∈ gs, GapQ q
def trackT (ms : List (List Rat)) (gs : List Rat) : T := .tup [.tup (ms.map markT), .tup (gs.map shT)]
theorem Track.ok {ms : List (List Rat)} {gs : List Rat} (t : Track ms gs) : lineB (trackT ms gs) = true := by
  have h1 := t.len1
  have h3 := t.len3
  have hg := t.gl
  simp only [trackT, lineB, T.tupB, List.length_map, Bool.and_eq_true, decide_eq_true_eq]
  refine ⟨⟨⟨by omega, by omega⟩, by omega, by omega⟩, ?_, ?_⟩
  · rw [List.all_eq_true]
    intro x hx
    obtain ⟨q, hq, rfl⟩ := List.mem_map.mp hx
    exact (t.mks q hq).ok
  · rw [List.all_eq_true]
    intro x hx
    obtain ⟨q, hq, rfl⟩ := List.mem_map.mp hx
    have := t.gp q hq
    simp only [gapB, shareB_shT, shq_sh, Bool.true_and, decide_eq_false this.lo, decide_eq_false this.hi]
    rfl
theorem Mark.sm {qs : List Rat} (m : Mark qs) : SmL 1 93 (qs.map shT) := by
  refine (SmL.of (m := 1) (w := 30) fun x hx => ?_).mono (Nat.le_refl _) (by have := m.len3; rw [List.length_map]; omega)
  obtain ⟨q, hq, rfl⟩ := List.mem_map.mp hx
  exact Sm.sh (m.sz q hq) (by decide) (by decide)
theorem Track.smM {ms : List (List Rat)} {gs : List Rat} (t : Track ms gs) : SmL 2 282 (ms.map markT) := by
  refine (SmL.of (m := 2) (w := 93) fun x hx => ?_).mono (Nat.le_refl _) (by have := t.len3; rw [List.length_map]; omega)
  obtain ⟨q, hq, rfl⟩ := List.mem_map.mp hx
  exact (t.mks q hq).sm.tup
theorem Track.smG {ms : List (List Rat)} {gs : List Rat} (t : Track ms gs) : SmL 1 62 (gs.map shT) := by
  refine (SmL.of (m := 1) (w := 30) fun x hx => ?_).mono (Nat.le_refl _) (by have := t.len3; have := t.gl; rw [List.length_map]; omega)
  obtain ⟨q, hq, rfl⟩ := List.mem_map.mp hx
  exact Sm.sh (t.gp q hq).sz (by decide) (by decide)
theorem Track.sm {ms : List (List Rat)} {gs : List Rat} (t : Track ms gs) : Sm 4 346 (trackT ms gs) :=
  (SmL.cons t.smM.tup (SmL.one (t.smG.tup.mono (show 2 ≤ 3 by decide) (Nat.le_refl _)))).tup.mono (by decide) (by decide)
end EV
set_option Elab.async false
set_option linter.all false
set_option autoImplicit false
set_option maxRecDepth 100000
namespace EV
open PySem PySem.Spec L2
theorem Sm.tx {m w : Nat} {a : Str} (s : Sm m w (.str a)) : (T.str a).plain = true := by
  have := s.ty
  simp only [T.pd, tinyZ] at this
  simp only [T.plain, PyData.canLay0, PyData.strOk, ← Array.all_toList]
  exact this
end EV
set_option Elab.async false
set_option linter.all false
set_option autoImplicit false
set_option maxRecDepth 100000
namespace EV
open PySem PySem.Spec L2
def stepO (n : Nat) (os : List (List Nat)) : List (List Nat) := os.flatMap fun o => ((List.range n).filter fun c => !decide (c ∈ o)).map fun c => o ++ [c]
def ordsF (n : Nat) : Nat → List (List Nat)
  | 0 => [[]]
  | k + 1 => stepO n (ordsF n k)
theorem ordsF_mem {n : Nat} : ∀ {k : Nat} {o : List Nat}, o ∈ ordsF n k ↔ o.length = k ∧ o.Nodup ∧ ∀ i ∈ o, i < n
  | 0, o => by
    constructor
    · intro h
      have : o = [] := by simpa [ordsF] using h
      subst this
      exact ⟨rfl, List.nodup_nil, by simp⟩
    · intro ⟨h, _, _⟩
      have : o = [] := List.length_eq_zero_iff.mp h
      subst this
      simp [ordsF]
  | k + 1, o => by
    simp only [ordsF, stepO, List.mem_flatMap, List.mem_map, List.mem_filter, List.mem_range]
    constructor
    · rintro ⟨p, hp, c, ⟨hc, hn⟩, rfl⟩
      obtain ⟨h1, h2, h3⟩ := ordsF_mem.mp hp
      have hn : c ∉ p := by simpa using hn
      refine ⟨by simp [h1], ?_, fun i hi => ?_⟩
      · rw [List.nodup_append]
        refine ⟨h2, by simp, fun a ha b hb => ?_⟩
        have : b = c := by simpa using hb
        subst this
        intro e
        subst e
        exact hn ha
      · rcases List.mem_append.mp hi with hi | hi
        · exact h3 i hi
        · have : i = c := by simpa using hi
          omega
    · rintro ⟨h1, h2, h3⟩
      have ne : o ≠ [] := by intro e; subst e; simp at h1
      have eo := List.dropLast_concat_getLast ne
      have h2' := h2
      rw [← eo, List.nodup_append] at h2'
      refine ⟨o.dropLast, ordsF_mem.mpr ⟨by simp [h1], h2'.1, fun i hi => h3 i (List.dropLast_subset _ hi)⟩, o.getLast ne, ⟨h3 _ (List.getLast_mem ne), ?_⟩, eo⟩
      have : o.getLast ne ∉ o.dropLast := fun h => h2'.2.2 _ h (o.getLast ne) (by simp) rfl
      simpa using this
def isUp (o : List Nat) : Bool := decide (o.headD 0 < o.getLastD 0)
structure Ord (n : Nat) (o : List Nat) : Prop where
  len : o.length = n
  nd : o.Nodup
  lt : ∀ i ∈ o, i < n
theorem Ord.mem {n : Nat} {o : List Nat} : Ord n o ↔ o ∈ ordsF n n := ⟨fun h => ordsF_mem.mpr ⟨h.len, h.nd, h.lt⟩, fun h => have q := ordsF_mem.mp h; ⟨q.1, q.2.1, q.2.2⟩⟩
theorem Ord.up {n : Nat} {o : List Nat} (h : Ord n o) (hn : 2 ≤ n) : isUp o = true ∨ isUp o.reverse = true := by
  obtain ⟨h1, h2, h3⟩ := h
  match o, h1, h2 with
  | [], h1, _ => exact absurd h1 (by simp; omega)
  | [a], h1, _ => exact absurd h1 (by simp; omega)
  | a :: b :: l, h1, h2 =>
    have ne : a ≠ (b :: l).getLast (by simp) := fun e => (List.nodup_cons.mp h2).1 (e ▸ List.getLast_mem (by simp))
    have g : (a :: b :: l).getLastD 0 = (b :: l).getLast (by simp) := by
      rw [List.getLastD_eq_getLast?, List.getLast?_eq_some_getLast (by simp)]
      simp
    have hd : (a :: b :: l).reverse.headD 0 = (b :: l).getLast (by simp) := by
      rw [List.headD_eq_head?_getD, List.head?_reverse, List.getLast?_eq_some_getLast (by simp)]
      simp
    have gl : (a :: b :: l).reverse.getLastD 0 = a := by
      rw [List.getLastD_eq_getLast?, List.getLast?_reverse]
      rfl
    unfold isUp
    rw [g, hd, gl, List.headD_cons]
    by_cases q : a < (b :: l).getLast (by simp)
    · exact .inl (decide_eq_true q)
    · exact .inr (decide_eq_true (by omega))
end EV
set_option Elab.async false
set_option linter.all false
set_option autoImplicit false
set_option maxRecDepth 100000
namespace EV
open PySem PySem.Spec L2
theorem Ord.ends {n : Nat} {o : List Nat} (h : Ord n o) (hn : 2 ≤ n) : ∃ a b l l', o = a :: l ∧ o.reverse = b :: l' ∧ a ≠ b ∧ isUp o = decide (a < b) ∧ isUp o.reverse = decide (b < a) := by
  obtain ⟨h1, h2, h3⟩ := h
  match o, h1, h2 with
  | [], h1, _ => exact absurd h1 (by simp; omega)
  | [a], h1, _ => exact absurd h1 (by simp; omega)
  | a :: b :: l, h1, h2 =>
    obtain ⟨m, x, e⟩ : ∃ m x, b :: l = m ++ [x] := ⟨_, _, (List.dropLast_concat_getLast (by simp)).symm⟩
    rw [e] at h2 ⊢
    have hx : a ≠ x := fun z => (List.nodup_cons.mp h2).1 (by simp [z])
    have er : (a :: (m ++ [x])).reverse = x :: (m.reverse ++ [a]) := by simp
    refine ⟨a, x, m ++ [x], m.reverse ++ [a], rfl, er, hx, ?_, ?_⟩
    · have g : (a :: (m ++ [x])).getLastD 0 = x := by rw [List.getLastD_eq_getLast?, ← List.cons_append, List.getLast?_concat]; rfl
      unfold isUp
      rw [g]
      rfl
    · have g : (x :: (m.reverse ++ [a])).getLastD 0 = a := by rw [List.getLastD_eq_getLast?, ← List.cons_append, List.getLast?_concat]; rfl
      rw [er]
      unfold isUp
      rw [g]
      rfl
theorem nodup_lt : ∀ (n : Nat) (o : List Nat), o.Nodup → (∀ i ∈ o, i < n) → o.length ≤ n ∧ (o.length = n → o.Perm (List.range n))
  | 0, o, _, h => by
    cases o with
    | nil => exact ⟨Nat.le_refl _, fun _ => .refl _⟩
    | cons a o => exact absurd (h a (by simp)) (by omega)
  | n + 1, o, nd, h => by
    by_cases hm : n ∈ o
    · have P := List.perm_cons_erase hm
      have l := P.length_eq
      rw [List.length_cons] at l
      obtain ⟨h1, h2⟩ := nodup_lt n (o.erase n) (nd.erase n) fun i hi => by
        have := (nd.mem_erase_iff).mp hi
        have := h i this.2
        omega
      refine ⟨by omega, fun e => ?_⟩
      have P2 := h2 (by omega)
      rw [List.range_succ]
      exact P.trans ((P2.cons n).trans (List.perm_append_singleton n _).symm)
    · obtain ⟨h1, h2⟩ := nodup_lt n o nd fun i hi => by
        have := h i hi
        have : i ≠ n := fun e => hm (e ▸ hi)
        omega
      exact ⟨by omega, fun e => by omega⟩
theorem Ord.perm {n : Nat} {o : List Nat} (h : Ord n o) : o.Perm (List.range n) := (nodup_lt n o h.nd h.lt).2 h.len
end EV
set_option Elab.async false
set_option linter.all false
set_option autoImplicit false
set_option maxRecDepth 100000
namespace Mine
open PySem PySem.Spec PyProof.Rows L2 EV
end Mine
set_option Elab.async false
set_option linter.all false
set_option autoImplicit false
set_option maxRecDepth 100000
namespace Mine
open PySem PySem.Spec PyProof.Rows L2 EV
def p2 (i j : Int) : T := .tup [.int i, .int j]
theorem SmL.exact {m w : Nat} {xs : List T} (s : SmL m w xs) : SmL m (PyData.weightAll (T.pds xs)) xs := ⟨s.rb, s.dp, s.ty, Nat.le_refl _⟩
theorem Sm.exact {m w : Nat} {x : T} (s : Sm m w x) : Sm m x.pd.weight x := ⟨s.rb, s.dp, s.ty, Nat.le_refl _⟩
end Mine
set_option Elab.async false
set_option linter.all false
set_option autoImplicit false
set_option maxRecDepth 100000
namespace Mine
open PySem PySem.Spec PyProof.Rows L2 EV
def top (i : Nat) : Stmt := PySem.Challenge.pw_crossmarks_k01_shares_known_and_made.main.body.getD i (.Pass ⟨0, 0, 0, 0⟩)
abbrev s__law_draw : Stmt := top 19
abbrev s__law_number : Stmt := top 22
abbrev s_common_divisor : Stmt := top 15
abbrev s_share_of : Stmt := top 17
abbrev s__law_refused : Stmt := top 24
abbrev s_is_tuple_of : Stmt := top 10
abbrev s_is_whole : Stmt := top 9
abbrev s_is_share : Stmt := top 16
abbrev s__law_common : Stmt := top 20
abbrev s__law_share : Stmt := top 21
abbrev s__law_made_right : Stmt := top 25
abbrev s__law_is_share : Stmt := top 23
abbrev s_law : Stmt := top 26
def c_HALF : D := .tup [.int 1, .int 2]
def c_NOUGHT : D := .tup [.int 0, .int 1]
def c_ONE : D := .tup [.int 1, .int 1]
structure Txt (K : PySem.W.Frag) (mg : Str → Option Value) (T_share_of : Addr) : Prop where
  t_share_of : ∃ (o : Value) (od : Option Addr) (m : Nat) (sl : Array (Option Value)) (x0 : Tok), K.lookup T_share_of = some ⟨o, od, .seq #[.int 1 x0] m, sl⟩
  b_KeyError : mg "KeyError" = none
  b_ValueError : mg "ValueError" = none
  b_ZeroDivisionError : mg "ZeroDivisionError" = none
  b_abs : mg "abs" = none
  b_bool : mg "bool" = none
  b_int : mg "int" = none
  b_isinstance : mg "isinstance" = none
  b_len : mg "len" = none
  b_list : mg "list" = none
  b_range : mg "range" = none
  b_repr : mg "repr" = none
  b_tuple : mg "tuple" = none
  xc_NoShare : XCls K mg "NoShare"
  x0_NoOrder : XM0 K mg "NoOrder"
  x0_NoWeight : XM0 K mg "NoWeight"
  xm_NoCase : XMI K mg "NoCase" "part"
  xm_NoText : XMI K mg "NoText" "at"
  xm_NoThing : XMI K mg "NoThing" "thing"
  xq_CrossError : XQ1 K mg "CrossError" [("NoCase", true), ("NoOrder", true), ("NoShare", false), ("NoText", true), ("NoThing", false), ("NoWeight", true)]
  xq_CrossError_NoThing : XQ2 K mg "CrossError" "NoThing" [("NoCase", true), ("NoOrder", true), ("NoShare", false), ("NoText", true), ("NoThing", true), ("NoWeight", true)]
  xq_KeyError : XQB K "KeyError" [("NoCase", false), ("NoOrder", false), ("NoShare", false), ("NoText", false), ("NoThing", true), ("NoWeight", false)]
  xq_NoShare : XQ1 K mg "NoShare" [("NoCase", false), ("NoOrder", false), ("NoShare", true), ("NoText", false), ("NoThing", false), ("NoWeight", false)]
  xq_ValueError : XQB K "ValueError" [("NoCase", true), ("NoOrder", true), ("NoShare", false), ("NoText", true), ("NoThing", false), ("NoWeight", true)]
  xq_ZeroDivisionError : XQB K "ZeroDivisionError" [("NoCase", false), ("NoOrder", false), ("NoShare", true), ("NoText", false), ("NoThing", false), ("NoWeight", false)]
  xt_CrossError_NoShare_NoThing : XT3 K mg "CrossError" "NoShare" "NoThing" ["NoShare"]
  u_HALF : ∃ u, mg "HALF" = some u ∧ GlD K c_HALF u
  u_NOUGHT : ∃ u, mg "NOUGHT" = some u ∧ GlD K c_NOUGHT u
  u_ONE : ∃ u, mg "ONE" = some u ∧ GlD K c_ONE u
set_option maxHeartbeats 4000000
noncomputable def B__law_draw : SF := (sSeq (sIf (tB (eBin oGt (eBin oIx (eVar 0) (eK (.int 2))) (eK (.int 0)))) (sSeq (sSet 5 (eBin oMod (eBin oIx (eVar 0) (eK (.int 2))) (eVar 1))) (sSeq (sPut (eVar 0) (eK (.int 2)) (eBin oFdiv (eBin oIx (eVar 0) (eK (.int 2))) (eVar 1))) (sRet (eVar 5)))) sNext) (sSeq (sSet 2 (eBin oIx (eVar 0) (eK (.int 1)))) (sSeq (sPut (eVar 0) (eK (.int 1)) (eBin oAddA (eVar 2) (eK (.int 1)))) (sSeq (sSet 3 (eBin oAddA (eBin oMulA (eK (.int 90011)) (eVar 2)) (eK (.int 97)))) (sSeq (sIf (tB (eBin oNe (eBin oIx (eVar 0) (eK (.int 0))) (eLst aNil))) (sSet 3 (eBin oIx (eBin oIx (eVar 0) (eK (.int 0))) (eBin oMod (eVar 2) (eApp bLen (aCons (eBin oIx (eVar 0) (eK (.int 0))) aNil))))) sNext) (sSeq (sIf (tAnd2 (tB (eBin oLt (eVar 2) (eApp bLen (aCons (eBin oIx (eVar 0) (eK (.int 0))) aNil)))) (tB (eBin oGe (eApp bAbs (aCons (eVar 3) aNil)) (eBin oPow (eK (.int 10)) (eK (.int 18)))))) (sSeq (sPut (eVar 0) (eK (.int 2)) (eBin oFdiv (eApp bAbs (aCons (eVar 3) aNil)) (eVar 1))) (sRet (eBin oMod (eApp bAbs (aCons (eVar 3) aNil)) (eVar 1)))) sNext) (sSeq (sSet 4 (eBin oMod (eBin oPow (eBin oAddA (eBin oAddA (eBin oAddA (eBin oMod (eVar 3) (eK (.int 2147483563))) (eBin oMulA (eBin oMulA (eK (.int 60013)) (eVar 2)) (eVar 2))) (eBin oMulA (eK (.int 50021)) (eVar 2))) (eK (.int 53))) (eK (.int 3))) (eK (.int 2147483647)))) (sSeq (sSet 4 (eBin oMod (eBin oPow (eBin oAddA (eBin oMulA (eVar 4) (eBin oAddA (eBin oMulA (eK (.int 11)) (eVar 2)) (eK (.int 6)))) (eK (.int 70001))) (eK (.int 3))) (eK (.int 2147483587)))) (sRet (eBin oMod (eBin oFdiv (eVar 4) (eK (.int 32))) (eVar 1)))))))))))
noncomputable def F__law_draw : BF := mkFn 2 6 B__law_draw
noncomputable def B__law_number : SF := (sSeq (sSet 1 (eBin oAddA (eBin oMulA (eApp F__law_draw (aCons (eVar 0) (aCons (eBin oPow (eK (.int 10)) (eK (.int 6))) aNil))) (eBin oPow (eK (.int 10)) (eK (.int 6)))) (eApp F__law_draw (aCons (eVar 0) (aCons (eBin oPow (eK (.int 10)) (eK (.int 6))) aNil))))) (sRet (eBin oIx (eLst (aCons (eK (.int 0)) (aCons (eK (.int 1)) (aCons (eNeg (eK (.int 1))) (aCons (eBin oSub (eApp F__law_draw (aCons (eVar 0) (aCons (eK (.int 25)) aNil))) (eK (.int 12))) (aCons (eVar 1) (aCons (eBin oSub (eK (.int 0)) (eVar 1)) (aCons (eK (.int 360)) (aCons (eBin oSub (eBin oPow (eK (.int 10)) (eK (.int 12))) (eK (.int 1))) aNil))))))))) (eApp F__law_draw (aCons (eVar 0) (aCons (eK (.int 8)) aNil))))))
noncomputable def F__law_number : BF := mkFn 1 2 B__law_number
noncomputable def B_common_divisor : SF := (sSeq (sSet 0 (eApp bAbs (aCons (eVar 0) aNil))) (sSeq (sSet 1 (eApp bAbs (aCons (eVar 1) aNil))) (sSeq (sWhile (mInt 1) (tB (eBin oNe (eVar 1) (eK (.int 0)))) (sPar 0 1 (aCons (eVar 1) (aCons (eBin oMod (eVar 0) (eVar 1)) aNil)))) (sRet (eVar 0)))))
noncomputable def F_common_divisor : BF := mkFn 2 2 B_common_divisor
noncomputable def B_share_of : SF := (sSeq (sIf (tB (eBin oEq (eVar 1) (eK (.int 0)))) sBad sNext) (sSeq (sSet 2 (eApp F_common_divisor (aCons (eVar 0) (aCons (eVar 1) aNil)))) (sSeq (sIf (tB (eBin oLt (eVar 1) (eK (.int 0)))) (sSet 2 (eNeg (eVar 2))) sNext) (sRet (eTup (aCons (eBin oFdiv (eVar 0) (eVar 2)) (aCons (eBin oFdiv (eVar 1) (eVar 2)) aNil)))))))
noncomputable def F_share_of : BF := mkFn 2 3 B_share_of
noncomputable def XB_share_of : SF := (xSeq (xIf (tB (eBin oEq (eVar 1) (eK (.int 0)))) (sRaise "NoShare" (aCons (eK (.str "no share has nought below")) aNil)) sBad0) (sIf (tB (eBin oEq (eVar 1) (eK (.int 0)))) sBad sNext) sBad0)
noncomputable def FX_share_of : BF := mkFx 2 3 XB_share_of
noncomputable def B__law_refused : SF := (sSeq (sSet 1 (eK .non)) (sSeq (sTryAs (sExpr (eApp F_share_of (aCons (eVar 0) (aCons (eK (.int 0)) aNil)))) (xDo (xApp FX_share_of (aCons (eVar 0) (aCons (eK (.int 0)) aNil)))) ["NoShare"] 1 2) (sSeq (sIf (tOr2 (tNot1 (tB (eIsX [("NoCase", false), ("NoOrder", false), ("NoShare", true), ("NoText", false), ("NoThing", false), ("NoWeight", false)] (eVar 1)))) (tB (eIsX [("NoCase", true), ("NoOrder", true), ("NoShare", false), ("NoText", true), ("NoThing", true), ("NoWeight", true)] (eVar 1)))) (sRet (eK (.bl false))) sNext) (sRet (eIsX [("NoCase", false), ("NoOrder", false), ("NoShare", true), ("NoText", false), ("NoThing", false), ("NoWeight", false)] (eVar 1))))))
noncomputable def F__law_refused : BF := mkFn 1 3 B__law_refused
noncomputable def B_is_tuple_of : SF := (sRet (eAnd2 (eIsi .tup (eVar 0)) (eChain oLe oLe (eVar 1) (eApp bLen (aCons (eVar 0) aNil)) (eVar 2))))
noncomputable def F_is_tuple_of : BF := mkFn 3 3 B_is_tuple_of
noncomputable def B_is_whole : SF := (sRet (eAnd2 (eIsi .int (eVar 0)) (eNot1 (eIsi .bl (eVar 0)))))
noncomputable def F_is_whole : BF := mkFn 1 1 B_is_whole
noncomputable def B_is_share : SF := (sSeq (sIf (tNot1 (tB (eApp F_is_tuple_of (aCons (eVar 0) (aCons (eK (.int 2)) (aCons (eK (.int 2)) aNil)))))) (sRet (eK (.bl false))) sNext) (sSeq (sAsg (eVar 0) (gSeq 2 (gsCons (gSet 1) (gsCons (gSet 2) gsNil)))) (sSeq (sIf (tOr2 (tNot1 (tB (eApp F_is_whole (aCons (eVar 1) aNil)))) (tNot1 (tB (eApp F_is_whole (aCons (eVar 2) aNil))))) (sRet (eK (.bl false))) sNext) (sRet (eAnd2 (eBin oGe (eVar 2) (eK (.int 1))) (eBin oEq (eApp F_common_divisor (aCons (eVar 1) (aCons (eVar 2) aNil))) (eK (.int 1))))))))
noncomputable def F_is_share : BF := mkFn 1 3 B_is_share
noncomputable def B__law_common : SF := (sSeq (sPar 0 1 (aCons (eApp bAbs (aCons (eVar 0) aNil)) (aCons (eApp bAbs (aCons (eVar 1) aNil)) aNil))) (sSeq (sWhile (mInt 1) (tB (eBin oGt (eVar 1) (eK (.int 0)))) (sPar 0 1 (aCons (eVar 1) (aCons (eBin oMod (eVar 0) (eVar 1)) aNil)))) (sRet (eVar 0))))
noncomputable def F__law_common : BF := mkFn 2 2 B__law_common
noncomputable def B__law_share : SF := (sSeq (sSet 2 (eApp F__law_common (aCons (eVar 0) (aCons (eVar 1) aNil)))) (sSeq (sIf (tB (eBin oLt (eVar 1) (eK (.int 0)))) (sSet 2 (eBin oSub (eK (.int 0)) (eVar 2))) sNext) (sRet (eTup (aCons (eBin oFdiv (eVar 0) (eVar 2)) (aCons (eBin oFdiv (eVar 1) (eVar 2)) aNil))))))
noncomputable def F__law_share : BF := mkFn 2 3 B__law_share
noncomputable def B__law_made_right : SF := (sSeq (sSet 2 (eApp F_share_of (aCons (eVar 0) (aCons (eVar 1) aNil)))) (sSeq (sIf (tOr2 (tB (eBin oNe (eApp bReprZ (aCons (eVar 2) aNil)) (eApp bReprZ (aCons (eApp F__law_share (aCons (eVar 0) (aCons (eVar 1) aNil))) aNil)))) (tB (eBin oNotB (eApp F_is_share (aCons (eVar 2) aNil)) (eK (.bl true))))) (sRet (eK (.bl false))) sNext) (sRet (eAnd2 (eBin oEq (eBin oMulA (eBin oIx (eVar 2) (eK (.int 0))) (eVar 1)) (eBin oMulA (eVar 0) (eBin oIx (eVar 2) (eK (.int 1))))) (eBin oEq (eApp bReprZ (aCons (eAppK F_share_of [1, 0] 0 2 aNil (aCons (eVar 1) (aCons (eVar 0) aNil))) aNil)) (eApp bReprZ (aCons (eVar 2) aNil)))))))
noncomputable def F__law_made_right : BF := mkFn 2 3 B__law_made_right
noncomputable def B__law_is_share : SF := (sSeq (sIf (tOr2 (tNot1 (tB (eIsi .tup (eVar 0)))) (tB (eBin oNe (eApp bLen (aCons (eVar 0) aNil)) (eK (.int 2))))) (sRet (eK (.bl false))) sNext) (sSeq (sFor (iSeq (eVar 0)) (gSet 1) (sIf (tOr2 (tNot1 (tB (eIsi .int (eVar 1)))) (tB (eIsi .bl (eVar 1)))) (sRet (eK (.bl false))) sNext)) (sRet (eAnd2 (eBin oGt (eBin oIx (eVar 0) (eK (.int 1))) (eK (.int 0))) (eBin oEq (eApp F__law_common (aCons (eBin oIx (eVar 0) (eK (.int 0))) (aCons (eBin oIx (eVar 0) (eK (.int 1))) aNil))) (eK (.int 1)))))))
noncomputable def F__law_is_share : BF := mkFn 1 2 B__law_is_share
noncomputable def BR_law : SF := (sSeq (sFor (iR1 (aCons (eK (.int 12)) aNil)) (gSet 2) (sSeq (sSet 6 (eBin oIx (eLst (aCons (eK (.int 1)) (aCons (eK (.int 2)) (aCons (eK (.int 6)) (aCons (eK (.int 97)) (aCons (eBin oPow (eK (.int 10)) (eK (.int 5))) aNil)))))) (eApp F__law_draw (aCons (eVar 1) (aCons (eK (.int 5)) aNil))))) (sSeq (sPar 9 10 (aCons (eBin oMulA (eApp F__law_number (aCons (eVar 1) aNil)) (eVar 6)) (aCons (eBin oMulA (eApp F__law_number (aCons (eVar 1) aNil)) (eVar 6)) aNil))) (sSeq (sIf (tOr2 (tNot1 (tB (eApp F__law_refused (aCons (eVar 9) aNil)))) (tB (eBin oNe (eApp bReprZ (aCons (eAppD F_share_of [1] (aCons (eVar 9) aNil)) aNil)) (eApp bReprZ (aCons (eTup (aCons (eVar 9) (aCons (eK (.int 1)) aNil))) aNil))))) (sRet (eK (.bl false))) sNext) (sSeq (sIf (tAnd2 (tB (eBin oNe (eVar 10) (eK (.int 0)))) (tNot1 (tB (eApp F__law_made_right (aCons (eVar 9) (aCons (eVar 10) aNil)))))) (sRet (eK (.bl false))) sNext) (sSeq (sSet 7 (eBin oIx (eLst (aCons (eK .non) (aCons (eK (.bl true)) (aCons (eK (.str "1")) (aCons (eTup (aCons (eK (.int 1)) aNil)) (aCons (eLst (aCons (eK (.int 1)) aNil)) (aCons (eVar 9) (aCons (eK (.int 0)) (aCons (eNeg (eK (.int 1))) aNil))))))))) (eApp F__law_draw (aCons (eVar 1) (aCons (eK (.int 8)) aNil))))) (sSeq (sSet 8 (eLst (aCons (eTup (aCons (eVar 9) (aCons (eVar 10) aNil))) (aCons (eTup (aCons (eVar 10) (aCons (eVar 9) aNil))) (aCons (eTup (aCons (eVar 9) (aCons (eApp bAbs (aCons (eVar 10) aNil)) aNil))) (aCons (eTup (aCons (eVar 9) (aCons (eVar 10) (aCons (eK (.int 1)) aNil)))) (aCons (eTup (aCons (eVar 9) aNil)) (aCons (eLst (aCons (eVar 9) (aCons (eVar 10) aNil))) (aCons (eTup (aCons (eVar 7) (aCons (eK (.int 7)) aNil))) (aCons (eTup (aCons (eVar 9) (aCons (eVar 7) aNil))) (aCons (eVar 9) aNil))))))))))) (sFor (iSeq (eVar 8)) (gSet 3) (sSeq (sSet 11 (eApp bReprZ (aCons (eVar 3) aNil))) (sSeq (sIf (tOr2 (tB (eBin oNe (eApp bReprZ (aCons (eApp F_is_share (aCons (eVar 3) aNil)) aNil)) (eApp bReprZ (aCons (eApp F__law_is_share (aCons (eVar 3) aNil)) aNil)))) (tB (eBin oNe (eApp bReprZ (aCons (eVar 3) aNil)) (eVar 11)))) (sRet (eK (.bl false))) sNext) (sIf (tB (eBin oNe (eApp bReprZ (aCons (eAppK F_is_share [0] 0 1 aNil (aCons (eVar 3) aNil)) aNil)) (eApp bReprZ (aCons (eApp F__law_is_share (aCons (eVar 3) aNil)) aNil)))) (sRet (eK (.bl false))) sNext))))))))))) (sSeq (sFor (iSeq (eTup (aCons (eK .non) (aCons (eK (.bl true)) (aCons (eK (.str "1/2")) (aCons (eLst aNil) (aCons eDict0 (aCons (eTup aNil) (aCons (eTup (aCons (eK (.int 0)) (aCons (eK (.int 1)) aNil))) (aCons (eTup (aCons (eK (.int 0)) (aCons (eK (.int 2)) aNil))) (aCons (eTup (aCons (eK (.bl true)) (aCons (eK (.int 1)) aNil))) (aCons (eTup (aCons (eTup (aCons (eK (.int 1)) (aCons (eK (.int 2)) aNil))) (aCons (eK (.int 1)) aNil))) aNil)))))))))))) (gSet 3) (sIf (tB (eBin oNe (eApp bReprZ (aCons (eApp F_is_share (aCons (eVar 3) aNil)) aNil)) (eApp bReprZ (aCons (eApp F__law_is_share (aCons (eVar 3) aNil)) aNil)))) (sRet (eK (.bl false))) sNext)) (sSeq (sSet 4 (eLst (aCons (eK (.str "line")) (aCons (eK (.int 3)) (aCons (eTup (aCons (eK (.str "turn")) (aCons (eK (.int 1)) aNil))) (aCons (eK .non) (aCons (eK c_NOUGHT) (aCons (eK c_ONE) (aCons (eK c_HALF) aNil))))))))) (sSeq (sSet 5 (eLst (aCons (eIsX [("NoCase", true), ("NoOrder", true), ("NoShare", false), ("NoText", true), ("NoThing", false), ("NoWeight", true)] (eMk0 "NoOrder" (eK (.str "x")))) (aCons (eIsX [("NoCase", true), ("NoOrder", true), ("NoShare", false), ("NoText", true), ("NoThing", false), ("NoWeight", true)] (eMk0 "NoWeight" (eK (.str "x")))) aNil)))) (sSeq (sExpr (eMt mAppend (eVar 5) (aCons (eIsX [("NoCase", false), ("NoOrder", false), ("NoShare", false), ("NoText", false), ("NoThing", true), ("NoWeight", false)] (eMk "NoThing" "thing" (eK (.int 1)))) aNil))) (sRet (eAnd2 (eBin oEq (eVar 4) (eLst (aCons (eK (.str "line")) (aCons (eK (.int 3)) (aCons (eTup (aCons (eK (.str "turn")) (aCons (eK (.int 1)) aNil))) (aCons (eK .non) (aCons (eTup (aCons (eK (.int 0)) (aCons (eK (.int 1)) aNil))) (aCons (eTup (aCons (eK (.int 1)) (aCons (eK (.int 1)) aNil))) (aCons (eTup (aCons (eK (.int 1)) (aCons (eK (.int 2)) aNil))) aNil))))))))) (eBin oEq (eVar 5) (eBin oMulA (eLst (aCons (eK (.bl true)) aNil)) (eK (.int 3)))))))))))
noncomputable def B_law : SF := (sSeq (sSet 1 (eLst (aCons (eApp bList (aCons (eSlA (eVar 0) oNone (oSome (eK (.int 63)))) aNil)) (aCons (eK (.int 0)) (aCons (eK (.int 0)) aNil))))) BR_law)
noncomputable def F_law : BF := mkFn 1 12 B_law
section
variable {P : Program} {w : World} {K : PySem.W.Frag} {mg : Str → Option Value} {base : Heap} {T_share_of : Addr}
abbrev n__law_draw : List Str := ["_law_pen", "_law_many", "_law_at", "_law_cell", "_law_stirred", "_law_digit"]
theorem sc__law_draw : FnScope n__law_draw ["_law_pen", "_law_many"] (defScope s__law_draw) := ⟨rfl, rfl, rfl, by decide +kernel, rfl, by decide +kernel, by decide +kernel⟩
theorem b__law_draw (K : PySem.W.Frag) : ∀ (kV doc pm : Value) (an : Option Addr) (cdv ct : Value) (us : List Value), us.length = (["_law_pen", "_law_many"] : List Str).length → ∀ s : Shared, K.In s.heap → BindsTo s (PySem.W.fnOf "_law_draw" "_law_draw" (defArgs s__law_draw) (defBody s__law_draw) (defScope s__law_draw) .none kV doc pm an cdv ct) ⟨us, []⟩ ((["_law_pen", "_law_many"] : List Str).zip us) := fun _ _ _ _ _ _ us hl _ _ => BindsTo.of_eq (match us, hl with | [_, _], _ => rfl)
theorem ok__law_draw (T : Txt K mg T_share_of) (FA : ∃ f fd, mg "_law_draw" = some (.ref f) ∧ FunA K "_law_draw" "_law_draw" s__law_draw .none f fd) : HasFn P w K mg base 1 "_law_draw" s__law_draw .none ["_law_pen", "_law_many"] F__law_draw := by
  obtain ⟨f, fd, hm, F⟩ := FA
  refine ⟨⟨f, fd, hm, F, fn_ok F sc__law_draw fun cdv A outer s H E hr => ?_⟩, fun ds h v h' e => mkFn_len e⟩
  have hu := hu_of hr
  have hu64 := hr.units
  have nd := sc__law_draw.nd
  exact (ss_cons (ss_if (st_cmp op_gt sp_gt (se_ix hu (se_var 0 (hv := (Or.inl rfl))) se_int) se_int (nomark _)) (ss_cons (ss_set 5 nd (se_mod (se_ix hu (se_var 0 (hv := (Or.inl rfl))) se_int) (se_var 1 (hv := (Or.inl rfl))))) (ss_cons (ss_put hu (se_var 0 (hv := (Or.inl rfl))) se_int (se_fdiv (se_ix hu (se_var 0 (hv := (Or.inl rfl))) se_int) (se_var 1 (hv := (Or.inl rfl))))) (ss_one (ss_ret (se_var 5 (hv := (Or.inl rfl))))))) ss_nil) (ss_cons (ss_set 2 nd (se_ix hu (se_var 0 (hv := (Or.inl rfl))) se_int)) (ss_cons (ss_put hu (se_var 0 (hv := (Or.inl rfl))) se_int (se_addA (se_var 2 (hv := (Or.inl rfl))) se_int)) (ss_cons (ss_set 3 nd (se_addA (se_mulA se_int (se_var 2 (hv := (Or.inl rfl)))) se_int)) (ss_cons (ss_if (st_cmp (op_neA hu64) sp_ne (se_ix hu (se_var 0 (hv := (Or.inl rfl))) se_int) (se_lst sa_nil) (nomark _)) (ss_one (ss_set 3 nd (se_ix hu (se_ix hu (se_var 0 (hv := (Or.inl rfl))) se_int) (se_mod (se_var 2 (hv := (Or.inl rfl))) (se_len T.b_len (sa_cons (se_ix hu (se_var 0 (hv := (Or.inl rfl))) se_int) sa_nil)))))) ss_nil) (ss_cons (ss_if (st_w (sw_and (st_cmp op_lt sp_lt (se_var 2 (hv := (Or.inl rfl))) (se_len T.b_len (sa_cons (se_ix hu (se_var 0 (hv := (Or.inl rfl))) se_int) sa_nil)) (nomark _)) (sw_and1 (st_cmp op_ge sp_ge (se_abs T.b_abs (sa_cons (se_var 3 (hv := (Or.inl rfl))) sa_nil)) (se_pow se_int se_int) (nomark _))))) (ss_cons (ss_put hu (se_var 0 (hv := (Or.inl rfl))) se_int (se_fdiv (se_abs T.b_abs (sa_cons (se_var 3 (hv := (Or.inl rfl))) sa_nil)) (se_var 1 (hv := (Or.inl rfl))))) (ss_one (ss_ret (se_mod (se_abs T.b_abs (sa_cons (se_var 3 (hv := (Or.inl rfl))) sa_nil)) (se_var 1 (hv := (Or.inl rfl))))))) ss_nil) (ss_cons (ss_set 4 nd (se_mod (se_pow (se_addA (se_addA (se_addA (se_mod (se_var 3 (hv := (Or.inl rfl))) se_int) (se_mulA (se_mulA se_int (se_var 2 (hv := (Or.inl rfl)))) (se_var 2 (hv := (Or.inl rfl))))) (se_mulA se_int (se_var 2 (hv := (Or.inl rfl))))) se_int) se_int) se_int)) (ss_cons (ss_set 4 nd (se_mod (se_pow (se_addA (se_mulA (se_var 4 (hv := (Or.inl rfl))) (se_addA (se_mulA se_int (se_var 2 (hv := (Or.inl rfl)))) se_int)) se_int) se_int) se_int)) (ss_one (ss_ret (se_mod (se_fdiv (se_var 4 (hv := (Or.inl rfl))) se_int) (se_var 1 (hv := (Or.inl rfl))))))))))))))
abbrev n__law_number : List Str := ["_law_pen", "_law_great"]
theorem sc__law_number : FnScope n__law_number ["_law_pen"] (defScope s__law_number) := ⟨rfl, rfl, rfl, by decide +kernel, rfl, by decide +kernel, by decide +kernel⟩
theorem b__law_number (K : PySem.W.Frag) : ∀ (kV doc pm : Value) (an : Option Addr) (cdv ct : Value) (us : List Value), us.length = (["_law_pen"] : List Str).length → ∀ s : Shared, K.In s.heap → BindsTo s (PySem.W.fnOf "_law_number" "_law_number" (defArgs s__law_number) (defBody s__law_number) (defScope s__law_number) .none kV doc pm an cdv ct) ⟨us, []⟩ ((["_law_pen"] : List Str).zip us) := fun _ _ _ _ _ _ us hl _ _ => BindsTo.of_eq (match us, hl with | [_], _ => rfl)
theorem ok__law_number (T : Txt K mg T_share_of) (h__law_draw : HasFn P w K mg base 1 "_law_draw" s__law_draw .none ["_law_pen", "_law_many"] F__law_draw) (FA : ∃ f fd, mg "_law_number" = some (.ref f) ∧ FunA K "_law_number" "_law_number" s__law_number .none f fd) : HasFn P w K mg base 2 "_law_number" s__law_number .none ["_law_pen"] F__law_number := by
  obtain ⟨f, fd, hm, F⟩ := FA
  refine ⟨⟨f, fd, hm, F, fn_ok F sc__law_number fun cdv A outer s H E hr => ?_⟩, fun ds h v h' e => mkFn_len e⟩
  have hu := hu_of hr
  have hu64 := hr.units
  have nd := sc__law_number.nd
  exact (ss_cons (ss_set 1 nd (se_addA (se_mulA (se_call (h__law_draw.mono (by decide)) hr (sa_cons (se_var 0 (hv := (Or.inl rfl))) (sa_cons (se_pow se_int se_int) sa_nil)) (b__law_draw _)) (se_pow se_int se_int)) (se_call (h__law_draw.mono (by decide)) hr (sa_cons (se_var 0 (hv := (Or.inl rfl))) (sa_cons (se_pow se_int se_int) sa_nil)) (b__law_draw _)))) (ss_one (ss_ret (se_ix hu (se_lst (sa_cons se_int (sa_cons se_int (sa_cons (se_neg se_int) (sa_cons (se_sub (se_call (h__law_draw.mono (by decide)) hr (sa_cons (se_var 0 (hv := (Or.inl rfl))) (sa_cons se_int sa_nil)) (b__law_draw _)) se_int) (sa_cons (se_var 1 (hv := (Or.inl rfl))) (sa_cons (se_sub se_int (se_var 1 (hv := (Or.inl rfl)))) (sa_cons se_int (sa_cons (se_sub (se_pow se_int se_int) se_int) sa_nil))))))))) (se_call (h__law_draw.mono (by decide)) hr (sa_cons (se_var 0 (hv := (Or.inl rfl))) (sa_cons se_int sa_nil)) (b__law_draw _))))))
abbrev n_common_divisor : List Str := ["number", "other"]
theorem sc_common_divisor : FnScope n_common_divisor ["number", "other"] (defScope s_common_divisor) := ⟨rfl, rfl, rfl, by decide +kernel, rfl, by decide +kernel, by decide +kernel⟩
theorem b_common_divisor (K : PySem.W.Frag) : ∀ (kV doc pm : Value) (an : Option Addr) (cdv ct : Value) (us : List Value), us.length = (["number", "other"] : List Str).length → ∀ s : Shared, K.In s.heap → BindsTo s (PySem.W.fnOf "common_divisor" "common_divisor" (defArgs s_common_divisor) (defBody s_common_divisor) (defScope s_common_divisor) .none kV doc pm an cdv ct) ⟨us, []⟩ ((["number", "other"] : List Str).zip us) := fun _ _ _ _ _ _ us hl _ _ => BindsTo.of_eq (match us, hl with | [_, _], _ => rfl)
theorem ok_common_divisor (T : Txt K mg T_share_of) (FA : ∃ f fd, mg "common_divisor" = some (.ref f) ∧ FunA K "common_divisor" "common_divisor" s_common_divisor .none f fd) : HasFn P w K mg base 1 "common_divisor" s_common_divisor .none ["number", "other"] F_common_divisor := by
  obtain ⟨f, fd, hm, F⟩ := FA
  refine ⟨⟨f, fd, hm, F, fn_ok F sc_common_divisor fun cdv A outer s H E hr => ?_⟩, fun ds h v h' e => mkFn_len e⟩
  have hu := hu_of hr
  have hu64 := hr.units
  have nd := sc_common_divisor.nd
  exact (ss_cons (ss_set 0 nd (se_abs T.b_abs (sa_cons (se_var 0 (hv := (Or.inl rfl))) sa_nil))) (ss_cons (ss_set 1 nd (se_abs T.b_abs (sa_cons (se_var 1 (hv := (Or.inl rfl))) sa_nil))) (ss_cons (ss_while (mInt 1) (st_cmp (op_neA hu64) sp_ne (se_var 1 (hv := (Or.inl rfl))) se_int (nomark _)) (ss_one (ss_par 0 1 rfl nd (sa_cons (se_var 1 (hv := (Or.inl rfl))) (sa_cons (se_mod (se_var 0 (hv := (Or.inl rfl))) (se_var 1 (hv := (Or.inl rfl)))) sa_nil))))) (ss_one (ss_ret (se_var 0 (hv := (Or.inl rfl))))))))
abbrev n_share_of : List Str := ["top", "bottom", "divisor"]
theorem sc_share_of : FnScope n_share_of ["top", "bottom"] (defScope s_share_of) := ⟨rfl, rfl, rfl, by decide +kernel, rfl, by decide +kernel, by decide +kernel⟩
theorem b_share_of (T : Txt K mg T_share_of) : ∀ (kV doc pm : Value) (an : Option Addr) (cdv ct : Value) (us : List Value), us.length = (["top", "bottom"] : List Str).length → ∀ s : Shared, K.In s.heap → BindsTo s (PySem.W.fnOf "share_of" "share_of" (defArgs s_share_of) (defBody s_share_of) (defScope s_share_of) (.ref T_share_of) kV doc pm an cdv ct) ⟨us, []⟩ ((["top", "bottom"] : List Str).zip us) := by
  obtain ⟨o, od, m, sl, x0, h1⟩ := T.t_share_of
  exact fun _ _ _ _ _ _ us hl _ hK => PySem.W.binds_K hK rfl h1 rfl rfl (match us, hl with | [_, _], _ => rfl)
theorem ok_share_of (T : Txt K mg T_share_of) (h_common_divisor : HasFn P w K mg base 1 "common_divisor" s_common_divisor .none ["number", "other"] F_common_divisor) (FA : ∃ f fd, mg "share_of" = some (.ref f) ∧ FunA K "share_of" "share_of" s_share_of (.ref T_share_of) f fd) : HasFn P w K mg base 2 "share_of" s_share_of (.ref T_share_of) ["top", "bottom"] F_share_of := by
  obtain ⟨f, fd, hm, F⟩ := FA
  refine ⟨⟨f, fd, hm, F, fn_ok F sc_share_of fun cdv A outer s H E hr => ?_⟩, fun ds h v h' e => mkFn_len e⟩
  have hu := hu_of hr
  have hu64 := hr.units
  have nd := sc_share_of.nd
  exact (ss_cons (ss_if (st_cmp (op_eqA hu64) sp_eq (se_var 1 (hv := (Or.inl rfl))) se_int (nomark _)) (ss_one ss_never) ss_nil) (ss_cons (ss_set 2 nd (se_call (h_common_divisor.mono (by decide)) hr (sa_cons (se_var 0 (hv := (Or.inl rfl))) (sa_cons (se_var 1 (hv := (Or.inl rfl))) sa_nil)) (b_common_divisor _))) (ss_cons (ss_if (st_cmp op_lt sp_lt (se_var 1 (hv := (Or.inl rfl))) se_int (nomark _)) (ss_one (ss_set 2 nd (se_neg (se_var 2 (hv := (Or.inl rfl)))))) ss_nil) (ss_one (ss_ret (se_tup (sa_cons (se_fdiv (se_var 0 (hv := (Or.inl rfl))) (se_var 2 (hv := (Or.inl rfl)))) (sa_cons (se_fdiv (se_var 1 (hv := (Or.inl rfl))) (se_var 2 (hv := (Or.inl rfl)))) sa_nil))))))))
theorem xk_share_of (T : Txt K mg T_share_of) (FA : ∃ f fd, mg "share_of" = some (.ref f) ∧ FunA K "share_of" "share_of" s_share_of (.ref T_share_of) f fd) : HasFx P w K mg base 2 "share_of" s_share_of (.ref T_share_of) ["top", "bottom"] FX_share_of := by
  obtain ⟨f, fd, hm, F⟩ := FA
  refine ⟨⟨f, fd, hm, F, fx_ok F sc_share_of fun cdv A outer s H E hr => ?_⟩, fun ds h v h' e => mkFx_len e⟩
  have hu := hu_of hr
  have hu64 := hr.units
  have nd := sc_share_of.nd
  exact (sxss_cons flat_fn (sxs_if (ST.nox (st_cmp (op_eqA hu64) sp_eq (se_var 1 (hv := (Or.inl rfl))) se_int (nomark _))) (sxss_one (sxs_raise T.xc_NoShare accM2_fn rfl (SA.nox (sa_cons se_str sa_nil)))) sxss_bad) (SS.nox (ss_if (st_cmp (op_eqA hu64) sp_eq (se_var 1 (hv := (Or.inl rfl))) se_int (nomark _)) (ss_one ss_never) ss_nil)) sxss_bad)
abbrev n__law_refused : List Str := ["_law_up", "_law_caught", "error"]
theorem sc__law_refused : FnScope n__law_refused ["_law_up"] (defScope s__law_refused) := ⟨rfl, rfl, rfl, by decide +kernel, rfl, by decide +kernel, by decide +kernel⟩
theorem b__law_refused (K : PySem.W.Frag) : ∀ (kV doc pm : Value) (an : Option Addr) (cdv ct : Value) (us : List Value), us.length = (["_law_up"] : List Str).length → ∀ s : Shared, K.In s.heap → BindsTo s (PySem.W.fnOf "_law_refused" "_law_refused" (defArgs s__law_refused) (defBody s__law_refused) (defScope s__law_refused) .none kV doc pm an cdv ct) ⟨us, []⟩ ((["_law_up"] : List Str).zip us) := fun _ _ _ _ _ _ us hl _ _ => BindsTo.of_eq (match us, hl with | [_], _ => rfl)
theorem ok__law_refused (T : Txt K mg T_share_of) (h_share_of : HasFn P w K mg base 2 "share_of" s_share_of (.ref T_share_of) ["top", "bottom"] F_share_of) (x_share_of : HasFx P w K mg base 2 "share_of" s_share_of (.ref T_share_of) ["top", "bottom"] FX_share_of) (FA : ∃ f fd, mg "_law_refused" = some (.ref f) ∧ FunA K "_law_refused" "_law_refused" s__law_refused .none f fd) : HasFn P w K mg base 3 "_law_refused" s__law_refused .none ["_law_up"] F__law_refused := by
  obtain ⟨f, fd, hm, F⟩ := FA
  refine ⟨⟨f, fd, hm, F, fn_ok F sc__law_refused fun cdv A outer s H E hr => ?_⟩, fun ds h v h' e => mkFn_len e⟩
  have hu := hu_of hr
  have hu64 := hr.units
  have nd := sc__law_refused.nd
  exact (ss_cons (ss_set 1 nd se_non) (ss_cons (ss_try3 T.xt_CrossError_NoShare_NoThing rfl rfl rfl nd (ss_one (ss_expr (se_call (h_share_of.mono (by decide)) hr (sa_cons (se_var 0 (hv := (Or.inl rfl))) (sa_cons se_int sa_nil)) (b_share_of T)))) (fun E W ac => (sxss_one (sxs_expr (sx_call (x_share_of.mono (by decide)) hr ac (SA.nox (sa_cons (se_var 0 (hv := (Or.inl rfl))) (sa_cons se_int sa_nil))) (b_share_of T))))) (by decide) rfl rfl rfl rfl) (ss_cons (ss_if (st_w (sw_or (st_not (st_val (se_q1 T.b_isinstance T.xq_NoShare (se_var 1 (hv := (Or.inl rfl)))))) (sw_or1 (st_val (se_q2 T.b_isinstance T.xq_CrossError_NoThing (se_var 1 (hv := (Or.inl rfl)))))))) (ss_one (ss_ret se_bl)) ss_nil) (ss_one (ss_ret (se_qB T.b_isinstance T.b_ZeroDivisionError T.xq_ZeroDivisionError (se_var 1 (hv := (Or.inl rfl)))))))))
abbrev n_is_tuple_of : List Str := ["thing", "least", "most"]
theorem sc_is_tuple_of : FnScope n_is_tuple_of ["thing", "least", "most"] (defScope s_is_tuple_of) := ⟨rfl, rfl, rfl, by decide +kernel, rfl, by decide +kernel, by decide +kernel⟩
theorem b_is_tuple_of (K : PySem.W.Frag) : ∀ (kV doc pm : Value) (an : Option Addr) (cdv ct : Value) (us : List Value), us.length = (["thing", "least", "most"] : List Str).length → ∀ s : Shared, K.In s.heap → BindsTo s (PySem.W.fnOf "is_tuple_of" "is_tuple_of" (defArgs s_is_tuple_of) (defBody s_is_tuple_of) (defScope s_is_tuple_of) .none kV doc pm an cdv ct) ⟨us, []⟩ ((["thing", "least", "most"] : List Str).zip us) := fun _ _ _ _ _ _ us hl _ _ => BindsTo.of_eq (match us, hl with | [_, _, _], _ => rfl)
theorem ok_is_tuple_of (T : Txt K mg T_share_of) (FA : ∃ f fd, mg "is_tuple_of" = some (.ref f) ∧ FunA K "is_tuple_of" "is_tuple_of" s_is_tuple_of .none f fd) : HasFn P w K mg base 1 "is_tuple_of" s_is_tuple_of .none ["thing", "least", "most"] F_is_tuple_of := by
  obtain ⟨f, fd, hm, F⟩ := FA
  refine ⟨⟨f, fd, hm, F, fn_ok F sc_is_tuple_of fun cdv A outer s H E hr => ?_⟩, fun ds h v h' e => mkFn_len e⟩
  have hu := hu_of hr
  have hu64 := hr.units
  have nd := sc_is_tuple_of.nd
  exact (ss_one (ss_ret (se_and (se_isi .tup T.b_isinstance T.b_tuple (se_var 0 (hv := (Or.inl rfl)))) (se_one (se_chain op_le sp_le op_le sp_le (se_var 1 (hv := (Or.inl rfl))) (se_len T.b_len (sa_cons (se_var 0 (hv := (Or.inl rfl))) sa_nil)) (se_var 2 (hv := (Or.inl rfl))))))))
abbrev n_is_whole : List Str := ["thing"]
theorem sc_is_whole : FnScope n_is_whole ["thing"] (defScope s_is_whole) := ⟨rfl, rfl, rfl, by decide +kernel, rfl, by decide +kernel, by decide +kernel⟩
theorem b_is_whole (K : PySem.W.Frag) : ∀ (kV doc pm : Value) (an : Option Addr) (cdv ct : Value) (us : List Value), us.length = (["thing"] : List Str).length → ∀ s : Shared, K.In s.heap → BindsTo s (PySem.W.fnOf "is_whole" "is_whole" (defArgs s_is_whole) (defBody s_is_whole) (defScope s_is_whole) .none kV doc pm an cdv ct) ⟨us, []⟩ ((["thing"] : List Str).zip us) := fun _ _ _ _ _ _ us hl _ _ => BindsTo.of_eq (match us, hl with | [_], _ => rfl)
theorem ok_is_whole (T : Txt K mg T_share_of) (FA : ∃ f fd, mg "is_whole" = some (.ref f) ∧ FunA K "is_whole" "is_whole" s_is_whole .none f fd) : HasFn P w K mg base 1 "is_whole" s_is_whole .none ["thing"] F_is_whole := by
  obtain ⟨f, fd, hm, F⟩ := FA
  refine ⟨⟨f, fd, hm, F, fn_ok F sc_is_whole fun cdv A outer s H E hr => ?_⟩, fun ds h v h' e => mkFn_len e⟩
  have hu := hu_of hr
  have hu64 := hr.units
  have nd := sc_is_whole.nd
  exact (ss_one (ss_ret (se_and (se_isi .int T.b_isinstance T.b_int (se_var 0 (hv := (Or.inl rfl)))) (se_one (se_not (se_isi .bl T.b_isinstance T.b_bool (se_var 0 (hv := (Or.inl rfl)))))))))
abbrev n_is_share : List Str := ["thing", "top", "bottom"]
theorem sc_is_share : FnScope n_is_share ["thing"] (defScope s_is_share) := ⟨rfl, rfl, rfl, by decide +kernel, rfl, by decide +kernel, by decide +kernel⟩
theorem b_is_share (K : PySem.W.Frag) : ∀ (kV doc pm : Value) (an : Option Addr) (cdv ct : Value) (us : List Value), us.length = (["thing"] : List Str).length → ∀ s : Shared, K.In s.heap → BindsTo s (PySem.W.fnOf "is_share" "is_share" (defArgs s_is_share) (defBody s_is_share) (defScope s_is_share) .none kV doc pm an cdv ct) ⟨us, []⟩ ((["thing"] : List Str).zip us) := fun _ _ _ _ _ _ us hl _ _ => BindsTo.of_eq (match us, hl with | [_], _ => rfl)
theorem ok_is_share (T : Txt K mg T_share_of) (h_is_tuple_of : HasFn P w K mg base 1 "is_tuple_of" s_is_tuple_of .none ["thing", "least", "most"] F_is_tuple_of) (h_is_whole : HasFn P w K mg base 1 "is_whole" s_is_whole .none ["thing"] F_is_whole) (h_common_divisor : HasFn P w K mg base 1 "common_divisor" s_common_divisor .none ["number", "other"] F_common_divisor) (FA : ∃ f fd, mg "is_share" = some (.ref f) ∧ FunA K "is_share" "is_share" s_is_share .none f fd) : HasFn P w K mg base 2 "is_share" s_is_share .none ["thing"] F_is_share := by
  obtain ⟨f, fd, hm, F⟩ := FA
  refine ⟨⟨f, fd, hm, F, fn_ok F sc_is_share fun cdv A outer s H E hr => ?_⟩, fun ds h v h' e => mkFn_len e⟩
  have hu := hu_of hr
  have hu64 := hr.units
  have nd := sc_is_share.nd
  exact (ss_cons (ss_if (st_not (st_val (se_call (h_is_tuple_of.mono (by decide)) hr (sa_cons (se_var 0 (hv := (Or.inl rfl))) (sa_cons se_int (sa_cons se_int sa_nil))) (b_is_tuple_of _)))) (ss_one (ss_ret se_bl)) ss_nil) (ss_cons (ss_asg (se_var 0 (hv := (Or.inl rfl))) (sg_seq rfl (sgs_cons (sg_name 1 nd) (sgs_cons (sg_name 2 nd) sgs_nil)))) (ss_cons (ss_if (st_w (sw_or (st_not (st_val (se_call (h_is_whole.mono (by decide)) hr (sa_cons (se_var 1 (hv := (Or.inl rfl))) sa_nil) (b_is_whole _)))) (sw_or1 (st_not (st_val (se_call (h_is_whole.mono (by decide)) hr (sa_cons (se_var 2 (hv := (Or.inl rfl))) sa_nil) (b_is_whole _))))))) (ss_one (ss_ret se_bl)) ss_nil) (ss_one (ss_ret (se_and (se_cmp op_ge sp_ge (se_var 2 (hv := (Or.inl rfl))) se_int (nomark _)) (se_one (se_cmp (op_eqA hu64) sp_eq (se_call (h_common_divisor.mono (by decide)) hr (sa_cons (se_var 1 (hv := (Or.inl rfl))) (sa_cons (se_var 2 (hv := (Or.inl rfl))) sa_nil)) (b_common_divisor _)) se_int (nomark _)))))))))
abbrev n__law_common : List Str := ["_law_one", "_law_other"]
theorem sc__law_common : FnScope n__law_common ["_law_one", "_law_other"] (defScope s__law_common) := ⟨rfl, rfl, rfl, by decide +kernel, rfl, by decide +kernel, by decide +kernel⟩
theorem b__law_common (K : PySem.W.Frag) : ∀ (kV doc pm : Value) (an : Option Addr) (cdv ct : Value) (us : List Value), us.length = (["_law_one", "_law_other"] : List Str).length → ∀ s : Shared, K.In s.heap → BindsTo s (PySem.W.fnOf "_law_common" "_law_common" (defArgs s__law_common) (defBody s__law_common) (defScope s__law_common) .none kV doc pm an cdv ct) ⟨us, []⟩ ((["_law_one", "_law_other"] : List Str).zip us) := fun _ _ _ _ _ _ us hl _ _ => BindsTo.of_eq (match us, hl with | [_, _], _ => rfl)
theorem ok__law_common (T : Txt K mg T_share_of) (FA : ∃ f fd, mg "_law_common" = some (.ref f) ∧ FunA K "_law_common" "_law_common" s__law_common .none f fd) : HasFn P w K mg base 1 "_law_common" s__law_common .none ["_law_one", "_law_other"] F__law_common := by
  obtain ⟨f, fd, hm, F⟩ := FA
  refine ⟨⟨f, fd, hm, F, fn_ok F sc__law_common fun cdv A outer s H E hr => ?_⟩, fun ds h v h' e => mkFn_len e⟩
  have hu := hu_of hr
  have hu64 := hr.units
  have nd := sc__law_common.nd
  exact (ss_cons (ss_par 0 1 rfl nd (sa_cons (se_abs T.b_abs (sa_cons (se_var 0 (hv := (Or.inl rfl))) sa_nil)) (sa_cons (se_abs T.b_abs (sa_cons (se_var 1 (hv := (Or.inl rfl))) sa_nil)) sa_nil))) (ss_cons (ss_while (mInt 1) (st_cmp op_gt sp_gt (se_var 1 (hv := (Or.inl rfl))) se_int (nomark _)) (ss_one (ss_par 0 1 rfl nd (sa_cons (se_var 1 (hv := (Or.inl rfl))) (sa_cons (se_mod (se_var 0 (hv := (Or.inl rfl))) (se_var 1 (hv := (Or.inl rfl)))) sa_nil))))) (ss_one (ss_ret (se_var 0 (hv := (Or.inl rfl)))))))
abbrev n__law_share : List Str := ["_law_up", "_law_down", "_law_by"]
theorem sc__law_share : FnScope n__law_share ["_law_up", "_law_down"] (defScope s__law_share) := ⟨rfl, rfl, rfl, by decide +kernel, rfl, by decide +kernel, by decide +kernel⟩
theorem b__law_share (K : PySem.W.Frag) : ∀ (kV doc pm : Value) (an : Option Addr) (cdv ct : Value) (us : List Value), us.length = (["_law_up", "_law_down"] : List Str).length → ∀ s : Shared, K.In s.heap → BindsTo s (PySem.W.fnOf "_law_share" "_law_share" (defArgs s__law_share) (defBody s__law_share) (defScope s__law_share) .none kV doc pm an cdv ct) ⟨us, []⟩ ((["_law_up", "_law_down"] : List Str).zip us) := fun _ _ _ _ _ _ us hl _ _ => BindsTo.of_eq (match us, hl with | [_, _], _ => rfl)
theorem ok__law_share (T : Txt K mg T_share_of) (h__law_common : HasFn P w K mg base 1 "_law_common" s__law_common .none ["_law_one", "_law_other"] F__law_common) (FA : ∃ f fd, mg "_law_share" = some (.ref f) ∧ FunA K "_law_share" "_law_share" s__law_share .none f fd) : HasFn P w K mg base 2 "_law_share" s__law_share .none ["_law_up", "_law_down"] F__law_share := by
  obtain ⟨f, fd, hm, F⟩ := FA
  refine ⟨⟨f, fd, hm, F, fn_ok F sc__law_share fun cdv A outer s H E hr => ?_⟩, fun ds h v h' e => mkFn_len e⟩
  have hu := hu_of hr
  have hu64 := hr.units
  have nd := sc__law_share.nd
  exact (ss_cons (ss_set 2 nd (se_call (h__law_common.mono (by decide)) hr (sa_cons (se_var 0 (hv := (Or.inl rfl))) (sa_cons (se_var 1 (hv := (Or.inl rfl))) sa_nil)) (b__law_common _))) (ss_cons (ss_if (st_cmp op_lt sp_lt (se_var 1 (hv := (Or.inl rfl))) se_int (nomark _)) (ss_one (ss_set 2 nd (se_sub se_int (se_var 2 (hv := (Or.inl rfl)))))) ss_nil) (ss_one (ss_ret (se_tup (sa_cons (se_fdiv (se_var 0 (hv := (Or.inl rfl))) (se_var 2 (hv := (Or.inl rfl)))) (sa_cons (se_fdiv (se_var 1 (hv := (Or.inl rfl))) (se_var 2 (hv := (Or.inl rfl)))) sa_nil)))))))
abbrev n__law_made_right : List Str := ["_law_up", "_law_down", "_law_told"]
theorem sc__law_made_right : FnScope n__law_made_right ["_law_up", "_law_down"] (defScope s__law_made_right) := ⟨rfl, rfl, rfl, by decide +kernel, rfl, by decide +kernel, by decide +kernel⟩
theorem b__law_made_right (K : PySem.W.Frag) : ∀ (kV doc pm : Value) (an : Option Addr) (cdv ct : Value) (us : List Value), us.length = (["_law_up", "_law_down"] : List Str).length → ∀ s : Shared, K.In s.heap → BindsTo s (PySem.W.fnOf "_law_made_right" "_law_made_right" (defArgs s__law_made_right) (defBody s__law_made_right) (defScope s__law_made_right) .none kV doc pm an cdv ct) ⟨us, []⟩ ((["_law_up", "_law_down"] : List Str).zip us) := fun _ _ _ _ _ _ us hl _ _ => BindsTo.of_eq (match us, hl with | [_, _], _ => rfl)
theorem ok__law_made_right (T : Txt K mg T_share_of) (h_share_of : HasFn P w K mg base 2 "share_of" s_share_of (.ref T_share_of) ["top", "bottom"] F_share_of) (h__law_share : HasFn P w K mg base 2 "_law_share" s__law_share .none ["_law_up", "_law_down"] F__law_share) (h_is_share : HasFn P w K mg base 2 "is_share" s_is_share .none ["thing"] F_is_share) (FA : ∃ f fd, mg "_law_made_right" = some (.ref f) ∧ FunA K "_law_made_right" "_law_made_right" s__law_made_right .none f fd) : HasFn P w K mg base 3 "_law_made_right" s__law_made_right .none ["_law_up", "_law_down"] F__law_made_right := by
  obtain ⟨f, fd, hm, F⟩ := FA
  refine ⟨⟨f, fd, hm, F, fn_ok F sc__law_made_right fun cdv A outer s H E hr => ?_⟩, fun ds h v h' e => mkFn_len e⟩
  have hu := hu_of hr
  have hu64 := hr.units
  have nd := sc__law_made_right.nd
  exact (ss_cons (ss_set 2 nd (se_call (h_share_of.mono (by decide)) hr (sa_cons (se_var 0 (hv := (Or.inl rfl))) (sa_cons (se_var 1 (hv := (Or.inl rfl))) sa_nil)) (b_share_of T))) (ss_cons (ss_if (st_w (sw_or (st_cmp (op_neA hu64) sp_ne (se_reprZ hr T.b_repr (sa_cons (se_var 2 (hv := (Or.inl rfl))) sa_nil)) (se_reprZ hr T.b_repr (sa_cons (se_call (h__law_share.mono (by decide)) hr (sa_cons (se_var 0 (hv := (Or.inl rfl))) (sa_cons (se_var 1 (hv := (Or.inl rfl))) sa_nil)) (b__law_share _)) sa_nil)) (nomark _)) (sw_or1 (st_cmp op_notB sp_notB (se_call (h_is_share.mono (by decide)) hr (sa_cons (se_var 2 (hv := (Or.inl rfl))) sa_nil) (b_is_share _)) se_bl (nomark _))))) (ss_one (ss_ret se_bl)) ss_nil) (ss_one (ss_ret (se_and (se_cmp (op_eqA hu64) sp_eq (se_mulA (se_ix hu (se_var 2 (hv := (Or.inl rfl))) se_int) (se_var 1 (hv := (Or.inl rfl)))) (se_mulA (se_var 0 (hv := (Or.inl rfl))) (se_ix hu (se_var 2 (hv := (Or.inl rfl))) se_int)) (nomark _)) (se_one (se_cmp (op_eqA hu64) sp_eq (se_reprZ hr T.b_repr (sa_cons (se_callK0 [1, 0] 2 ["bottom", "top"] (h_share_of.mono (by decide)) hr (sk_cons (se_var 1 (hv := (Or.inl rfl))) (sk_cons (se_var 0 (hv := (Or.inl rfl))) sk_nil)) (by obtain ⟨o, od, m, sl, x0, h1⟩ := T.t_share_of; exact fun _ _ _ _ _ _ ws hl _ hK => (match ws, hl with | [_, _], _ => PySem.W.binds_K hK rfl h1 rfl rfl rfl))) sa_nil)) (se_reprZ hr T.b_repr (sa_cons (se_var 2 (hv := (Or.inl rfl))) sa_nil)) (nomark _))))))))
abbrev n__law_is_share : List Str := ["_law_some", "_law_part"]
theorem sc__law_is_share : FnScope n__law_is_share ["_law_some"] (defScope s__law_is_share) := ⟨rfl, rfl, rfl, by decide +kernel, rfl, by decide +kernel, by decide +kernel⟩
theorem b__law_is_share (K : PySem.W.Frag) : ∀ (kV doc pm : Value) (an : Option Addr) (cdv ct : Value) (us : List Value), us.length = (["_law_some"] : List Str).length → ∀ s : Shared, K.In s.heap → BindsTo s (PySem.W.fnOf "_law_is_share" "_law_is_share" (defArgs s__law_is_share) (defBody s__law_is_share) (defScope s__law_is_share) .none kV doc pm an cdv ct) ⟨us, []⟩ ((["_law_some"] : List Str).zip us) := fun _ _ _ _ _ _ us hl _ _ => BindsTo.of_eq (match us, hl with | [_], _ => rfl)
theorem ok__law_is_share (T : Txt K mg T_share_of) (h__law_common : HasFn P w K mg base 1 "_law_common" s__law_common .none ["_law_one", "_law_other"] F__law_common) (FA : ∃ f fd, mg "_law_is_share" = some (.ref f) ∧ FunA K "_law_is_share" "_law_is_share" s__law_is_share .none f fd) : HasFn P w K mg base 2 "_law_is_share" s__law_is_share .none ["_law_some"] F__law_is_share := by
  obtain ⟨f, fd, hm, F⟩ := FA
  refine ⟨⟨f, fd, hm, F, fn_ok F sc__law_is_share fun cdv A outer s H E hr => ?_⟩, fun ds h v h' e => mkFn_len e⟩
  have hu := hu_of hr
  have hu64 := hr.units
  have nd := sc__law_is_share.nd
  exact (ss_cons (ss_if (st_w (sw_or (st_not (st_val (se_isi .tup T.b_isinstance T.b_tuple (se_var 0 (hv := (Or.inl rfl)))))) (sw_or1 (st_cmp (op_neA hu64) sp_ne (se_len T.b_len (sa_cons (se_var 0 (hv := (Or.inl rfl))) sa_nil)) se_int (nomark _))))) (ss_one (ss_ret se_bl)) ss_nil) (ss_cons (ss_for rfl (si_seq (se_var 0 (hv := (Or.inl rfl)))) (sg_name 1 nd) (ss_one (ss_if (st_w (sw_or (st_not (st_val (se_isi .int T.b_isinstance T.b_int (se_var 1 (hv := (Or.inl rfl)))))) (sw_or1 (st_val (se_isi .bl T.b_isinstance T.b_bool (se_var 1 (hv := (Or.inl rfl)))))))) (ss_one (ss_ret se_bl)) ss_nil))) (ss_one (ss_ret (se_and (se_cmp op_gt sp_gt (se_ix hu (se_var 0 (hv := (Or.inl rfl))) se_int) se_int (nomark _)) (se_one (se_cmp (op_eqA hu64) sp_eq (se_call (h__law_common.mono (by decide)) hr (sa_cons (se_ix hu (se_var 0 (hv := (Or.inl rfl))) se_int) (sa_cons (se_ix hu (se_var 0 (hv := (Or.inl rfl))) se_int) sa_nil)) (b__law_common _)) se_int (nomark _))))))))
abbrev n_law : List Str := ["_law_script", "_law_pen", "_law_turn", "_law_one", "_law_fields", "_law_bases", "_law_by", "_law_odd", "_law_bent", "_law_up", "_law_down", "_law_kept"]
theorem sc_law : FnScope n_law ["_law_script"] (defScope s_law) := ⟨rfl, rfl, rfl, by decide +kernel, rfl, by decide +kernel, by decide +kernel⟩
theorem ok_law (T : Txt K mg T_share_of) (h__law_draw : HasFn P w K mg base 1 "_law_draw" s__law_draw .none ["_law_pen", "_law_many"] F__law_draw) (h__law_number : HasFn P w K mg base 2 "_law_number" s__law_number .none ["_law_pen"] F__law_number) (h__law_refused : HasFn P w K mg base 3 "_law_refused" s__law_refused .none ["_law_up"] F__law_refused) (h_share_of : HasFn P w K mg base 2 "share_of" s_share_of (.ref T_share_of) ["top", "bottom"] F_share_of) (h__law_made_right : HasFn P w K mg base 3 "_law_made_right" s__law_made_right .none ["_law_up", "_law_down"] F__law_made_right) (h_is_share : HasFn P w K mg base 2 "is_share" s_is_share .none ["thing"] F_is_share) (h__law_is_share : HasFn P w K mg base 2 "_law_is_share" s__law_is_share .none ["_law_some"] F__law_is_share) (FA : ∃ f fd, mg "law" = some (.ref f) ∧ FunA K "law" "law" s_law .none f fd) : HasFn P w K mg base 4 "law" s_law .none ["_law_script"] F_law := by
  obtain ⟨f, fd, hm, F⟩ := FA
  refine ⟨⟨f, fd, hm, F, fn_ok F sc_law fun cdv A outer s H E hr => ?_⟩, fun ds h v h' e => mkFn_len e⟩
  have hu := hu_of hr
  have hu64 := hr.units
  have nd := sc_law.nd
  exact (ss_cons (ss_set 1 nd (se_lst (sa_cons (se_list T.b_list (sa_cons (se_slA (se_var 0 (hv := (Or.inl rfl))) so_none (so_some se_int)) sa_nil)) (sa_cons se_int (sa_cons se_int sa_nil))))) (ss_cons (ss_for rfl (si_r1 T.b_range (sa_cons se_int sa_nil)) (sg_name 2 nd) (ss_cons (ss_set 6 nd (se_ix hu (se_lst (sa_cons se_int (sa_cons se_int (sa_cons se_int (sa_cons se_int (sa_cons (se_pow se_int se_int) sa_nil)))))) (se_call (h__law_draw.mono (by decide)) hr (sa_cons (se_var 1 (hv := (Or.inl rfl))) (sa_cons se_int sa_nil)) (b__law_draw _)))) (ss_cons (ss_par 9 10 rfl nd (sa_cons (se_mulA (se_call (h__law_number.mono (by decide)) hr (sa_cons (se_var 1 (hv := (Or.inl rfl))) sa_nil) (b__law_number _)) (se_var 6 (hv := (Or.inl rfl)))) (sa_cons (se_mulA (se_call (h__law_number.mono (by decide)) hr (sa_cons (se_var 1 (hv := (Or.inl rfl))) sa_nil) (b__law_number _)) (se_var 6 (hv := (Or.inl rfl)))) sa_nil))) (ss_cons (ss_if (st_w (sw_or (st_not (st_val (se_call (h__law_refused.mono (by decide)) hr (sa_cons (se_var 9 (hv := (Or.inl rfl))) sa_nil) (b__law_refused _)))) (sw_or1 (st_cmp (op_neA hu64) sp_ne (se_reprZ hr T.b_repr (sa_cons (se_callD [1] 1 rfl (h_share_of.mono (by decide)) hr (sa_cons (se_var 9 (hv := (Or.inl rfl))) sa_nil) (by obtain ⟨o, od, m, sl, x0, h1⟩ := T.t_share_of; exact ⟨[.int 1 x0], (.cons ⟨_, rfl⟩ .nil), fun _ _ _ _ _ _ us hl _ hK => PySem.W.binds_K hK rfl h1 rfl rfl (match us, hl with | [_], _ => rfl)⟩)) sa_nil)) (se_reprZ hr T.b_repr (sa_cons (se_tup (sa_cons (se_var 9 (hv := (Or.inl rfl))) (sa_cons se_int sa_nil))) sa_nil)) (nomark _))))) (ss_one (ss_ret se_bl)) ss_nil) (ss_cons (ss_if (st_w (sw_and (st_cmp (op_neA hu64) sp_ne (se_var 10 (hv := (Or.inl rfl))) se_int (nomark _)) (sw_and1 (st_not (st_val (se_call (h__law_made_right.mono (by decide)) hr (sa_cons (se_var 9 (hv := (Or.inl rfl))) (sa_cons (se_var 10 (hv := (Or.inl rfl))) sa_nil)) (b__law_made_right _))))))) (ss_one (ss_ret se_bl)) ss_nil) (ss_cons (ss_set 7 nd (se_ix hu (se_lst (sa_cons se_non (sa_cons se_bl (sa_cons se_str (sa_cons (se_tup (sa_cons se_int sa_nil)) (sa_cons (se_lst (sa_cons se_int sa_nil)) (sa_cons (se_var 9 (hv := (Or.inl rfl))) (sa_cons se_int (sa_cons (se_neg se_int) sa_nil))))))))) (se_call (h__law_draw.mono (by decide)) hr (sa_cons (se_var 1 (hv := (Or.inl rfl))) (sa_cons se_int sa_nil)) (b__law_draw _)))) (ss_cons (ss_set 8 nd (se_lst (sa_cons (se_tup (sa_cons (se_var 9 (hv := (Or.inl rfl))) (sa_cons (se_var 10 (hv := (Or.inl rfl))) sa_nil))) (sa_cons (se_tup (sa_cons (se_var 10 (hv := (Or.inl rfl))) (sa_cons (se_var 9 (hv := (Or.inl rfl))) sa_nil))) (sa_cons (se_tup (sa_cons (se_var 9 (hv := (Or.inl rfl))) (sa_cons (se_abs T.b_abs (sa_cons (se_var 10 (hv := (Or.inl rfl))) sa_nil)) sa_nil))) (sa_cons (se_tup (sa_cons (se_var 9 (hv := (Or.inl rfl))) (sa_cons (se_var 10 (hv := (Or.inl rfl))) (sa_cons se_int sa_nil)))) (sa_cons (se_tup (sa_cons (se_var 9 (hv := (Or.inl rfl))) sa_nil)) (sa_cons (se_lst (sa_cons (se_var 9 (hv := (Or.inl rfl))) (sa_cons (se_var 10 (hv := (Or.inl rfl))) sa_nil))) (sa_cons (se_tup (sa_cons (se_var 7 (hv := (Or.inl rfl))) (sa_cons se_int sa_nil))) (sa_cons (se_tup (sa_cons (se_var 9 (hv := (Or.inl rfl))) (sa_cons (se_var 7 (hv := (Or.inl rfl))) sa_nil))) (sa_cons (se_var 9 (hv := (Or.inl rfl))) sa_nil))))))))))) (ss_one (ss_for rfl (si_seq (se_var 8 (hv := (Or.inl rfl)))) (sg_name 3 nd) (ss_cons (ss_set 11 nd (se_reprZ hr T.b_repr (sa_cons (se_var 3 (hv := (Or.inl rfl))) sa_nil))) (ss_cons (ss_if (st_w (sw_or (st_cmp (op_neA hu64) sp_ne (se_reprZ hr T.b_repr (sa_cons (se_call (h_is_share.mono (by decide)) hr (sa_cons (se_var 3 (hv := (Or.inl rfl))) sa_nil) (b_is_share _)) sa_nil)) (se_reprZ hr T.b_repr (sa_cons (se_call (h__law_is_share.mono (by decide)) hr (sa_cons (se_var 3 (hv := (Or.inl rfl))) sa_nil) (b__law_is_share _)) sa_nil)) (nomark _)) (sw_or1 (st_cmp (op_neA hu64) sp_ne (se_reprZ hr T.b_repr (sa_cons (se_var 3 (hv := (Or.inl rfl))) sa_nil)) (se_var 11 (hv := (Or.inl rfl))) (nomark _))))) (ss_one (ss_ret se_bl)) ss_nil) (ss_one (ss_if (st_cmp (op_neA hu64) sp_ne (se_reprZ hr T.b_repr (sa_cons (se_callK0 [0] 1 ["thing"] (h_is_share.mono (by decide)) hr (sk_cons (se_var 3 (hv := (Or.inl rfl))) sk_nil) (fun _ _ _ _ _ _ ws hl _ _ => BindsTo.of_eq (match ws, hl with | [_], _ => rfl))) sa_nil)) (se_reprZ hr T.b_repr (sa_cons (se_call (h__law_is_share.mono (by decide)) hr (sa_cons (se_var 3 (hv := (Or.inl rfl))) sa_nil) (b__law_is_share _)) sa_nil)) (nomark _)) (ss_one (ss_ret se_bl)) ss_nil))))))))))))) (ss_cons (ss_for rfl (si_seq (se_tup (sa_cons se_non (sa_cons se_bl (sa_cons se_str (sa_cons (se_lst sa_nil) (sa_cons se_dict0 (sa_cons (se_tup sa_nil) (sa_cons (se_tup (sa_cons se_int (sa_cons se_int sa_nil))) (sa_cons (se_tup (sa_cons se_int (sa_cons se_int sa_nil))) (sa_cons (se_tup (sa_cons se_bl (sa_cons se_int sa_nil))) (sa_cons (se_tup (sa_cons (se_tup (sa_cons se_int (sa_cons se_int sa_nil))) (sa_cons se_int sa_nil))) sa_nil)))))))))))) (sg_name 3 nd) (ss_one (ss_if (st_cmp (op_neA hu64) sp_ne (se_reprZ hr T.b_repr (sa_cons (se_call (h_is_share.mono (by decide)) hr (sa_cons (se_var 3 (hv := (Or.inl rfl))) sa_nil) (b_is_share _)) sa_nil)) (se_reprZ hr T.b_repr (sa_cons (se_call (h__law_is_share.mono (by decide)) hr (sa_cons (se_var 3 (hv := (Or.inl rfl))) sa_nil) (b__law_is_share _)) sa_nil)) (nomark _)) (ss_one (ss_ret se_bl)) ss_nil))) (ss_cons (ss_set 4 nd (se_lst (sa_cons (se_mf T.xm_NoCase hr se_str) (sa_cons (se_mf T.xm_NoText hr se_int) (sa_cons (se_mf T.xm_NoThing hr (se_tup (sa_cons se_str (sa_cons se_int sa_nil)))) (sa_cons (se_mf T.xm_NoText hr se_non) (sa_cons (se_globE rfl T.u_NOUGHT) (sa_cons (se_globE rfl T.u_ONE) (sa_cons (se_globE rfl T.u_HALF) sa_nil))))))))) (ss_cons (ss_set 5 nd (se_lst (sa_cons (se_q1 T.b_isinstance T.xq_CrossError (se_m0 T.x0_NoOrder rfl se_str)) (sa_cons (se_qB T.b_isinstance T.b_ValueError T.xq_ValueError (se_m0 T.x0_NoWeight rfl se_str)) sa_nil)))) (ss_cons (ss_expr (se_append (se_var 5 (hv := (Or.inl rfl))) (sa_cons (se_qB T.b_isinstance T.b_KeyError T.xq_KeyError (se_mi T.xm_NoThing hr rfl se_int)) sa_nil))) (ss_one (ss_ret (se_and (se_cmp (op_eqA hu64) sp_eq (se_var 4 (hv := (Or.inl rfl))) (se_lst (sa_cons se_str (sa_cons se_int (sa_cons (se_tup (sa_cons se_str (sa_cons se_int sa_nil))) (sa_cons se_non (sa_cons (se_tup (sa_cons se_int (sa_cons se_int sa_nil))) (sa_cons (se_tup (sa_cons se_int (sa_cons se_int sa_nil))) (sa_cons (se_tup (sa_cons se_int (sa_cons se_int sa_nil))) sa_nil)))))))) (nomark _)) (se_one (se_cmp (op_eqA hu64) sp_eq (se_var 5 (hv := (Or.inl rfl))) (se_mulA (se_lst (sa_cons se_bl sa_nil)) se_int) (nomark _))))))))))))
end
theorem all_mk {l : PySem.W.OpenLaw} {w : World} {K : PySem.W.Frag} {h : Heap} {mg : Str → Option Value} {fa : Addr} (X : K.In h) (G : h.Ns mainGlobals mg) (hfa : mg "law" = some (.ref fa))
    {f_0 f_1 f_2 f_3 f_4 f_5 f_6 f_7 f_8 f_9 f_10 f_11 f_12 : Addr} {T_share_of : Addr}
    {od0 an0 : Option Addr} {sl0 : Array (Option Value)} {oc0 kV0 dc0 pm0 cd0 ct0 : Value}
    {od1 an1 : Option Addr} {sl1 : Array (Option Value)} {oc1 kV1 dc1 pm1 cd1 ct1 : Value}
    {od2 an2 : Option Addr} {sl2 : Array (Option Value)} {oc2 kV2 dc2 pm2 cd2 ct2 : Value}
    {od3 an3 : Option Addr} {sl3 : Array (Option Value)} {oc3 kV3 dc3 pm3 cd3 ct3 : Value}
    {od4 an4 : Option Addr} {sl4 : Array (Option Value)} {oc4 kV4 dc4 pm4 cd4 ct4 : Value}
    {od5 an5 : Option Addr} {sl5 : Array (Option Value)} {oc5 kV5 dc5 pm5 cd5 ct5 : Value}
    {od6 an6 : Option Addr} {sl6 : Array (Option Value)} {oc6 kV6 dc6 pm6 cd6 ct6 : Value}
    {od7 an7 : Option Addr} {sl7 : Array (Option Value)} {oc7 kV7 dc7 pm7 cd7 ct7 : Value}
    {od8 an8 : Option Addr} {sl8 : Array (Option Value)} {oc8 kV8 dc8 pm8 cd8 ct8 : Value}
    {od9 an9 : Option Addr} {sl9 : Array (Option Value)} {oc9 kV9 dc9 pm9 cd9 ct9 : Value}
    {od10 an10 : Option Addr} {sl10 : Array (Option Value)} {oc10 kV10 dc10 pm10 cd10 ct10 : Value}
    {od11 an11 : Option Addr} {sl11 : Array (Option Value)} {oc11 kV11 dc11 pm11 cd11 ct11 : Value}
    {od12 an12 : Option Addr} {sl12 : Array (Option Value)} {oc12 kV12 dc12 pm12 cd12 ct12 : Value}
    (a0 : PySem.W.nsIn K mainGlobals "_law_draw" = some (some (.ref f_0))) (l0 : K.lookup f_0 = some ⟨oc0, od0, .func (PySem.W.fnOf "_law_draw" "_law_draw" (defArgs s__law_draw) (defBody s__law_draw) (defScope s__law_draw) .none kV0 dc0 pm0 an0 cd0 ct0), sl0⟩) (e0 : PySem.W.codeIn K cd0 "_law_draw" = true) (k0 : PySem.W.keepIn K (.ref f_0) = true)
    (a1 : PySem.W.nsIn K mainGlobals "_law_number" = some (some (.ref f_1))) (l1 : K.lookup f_1 = some ⟨oc1, od1, .func (PySem.W.fnOf "_law_number" "_law_number" (defArgs s__law_number) (defBody s__law_number) (defScope s__law_number) .none kV1 dc1 pm1 an1 cd1 ct1), sl1⟩) (e1 : PySem.W.codeIn K cd1 "_law_number" = true) (k1 : PySem.W.keepIn K (.ref f_1) = true)
    (a2 : PySem.W.nsIn K mainGlobals "common_divisor" = some (some (.ref f_2))) (l2 : K.lookup f_2 = some ⟨oc2, od2, .func (PySem.W.fnOf "common_divisor" "common_divisor" (defArgs s_common_divisor) (defBody s_common_divisor) (defScope s_common_divisor) .none kV2 dc2 pm2 an2 cd2 ct2), sl2⟩) (e2 : PySem.W.codeIn K cd2 "common_divisor" = true) (k2 : PySem.W.keepIn K (.ref f_2) = true)
    (a3 : PySem.W.nsIn K mainGlobals "share_of" = some (some (.ref f_3))) (l3 : K.lookup f_3 = some ⟨oc3, od3, .func (PySem.W.fnOf "share_of" "share_of" (defArgs s_share_of) (defBody s_share_of) (defScope s_share_of) (.ref T_share_of) kV3 dc3 pm3 an3 cd3 ct3), sl3⟩) (e3 : PySem.W.codeIn K cd3 "share_of" = true) (k3 : PySem.W.keepIn K (.ref f_3) = true)
    (a4 : PySem.W.nsIn K mainGlobals "_law_refused" = some (some (.ref f_4))) (l4 : K.lookup f_4 = some ⟨oc4, od4, .func (PySem.W.fnOf "_law_refused" "_law_refused" (defArgs s__law_refused) (defBody s__law_refused) (defScope s__law_refused) .none kV4 dc4 pm4 an4 cd4 ct4), sl4⟩) (e4 : PySem.W.codeIn K cd4 "_law_refused" = true) (k4 : PySem.W.keepIn K (.ref f_4) = true)
    (a5 : PySem.W.nsIn K mainGlobals "is_tuple_of" = some (some (.ref f_5))) (l5 : K.lookup f_5 = some ⟨oc5, od5, .func (PySem.W.fnOf "is_tuple_of" "is_tuple_of" (defArgs s_is_tuple_of) (defBody s_is_tuple_of) (defScope s_is_tuple_of) .none kV5 dc5 pm5 an5 cd5 ct5), sl5⟩) (e5 : PySem.W.codeIn K cd5 "is_tuple_of" = true) (k5 : PySem.W.keepIn K (.ref f_5) = true)
    (a6 : PySem.W.nsIn K mainGlobals "is_whole" = some (some (.ref f_6))) (l6 : K.lookup f_6 = some ⟨oc6, od6, .func (PySem.W.fnOf "is_whole" "is_whole" (defArgs s_is_whole) (defBody s_is_whole) (defScope s_is_whole) .none kV6 dc6 pm6 an6 cd6 ct6), sl6⟩) (e6 : PySem.W.codeIn K cd6 "is_whole" = true) (k6 : PySem.W.keepIn K (.ref f_6) = true)
    (a7 : PySem.W.nsIn K mainGlobals "is_share" = some (some (.ref f_7))) (l7 : K.lookup f_7 = some ⟨oc7, od7, .func (PySem.W.fnOf "is_share" "is_share" (defArgs s_is_share) (defBody s_is_share) (defScope s_is_share) .none kV7 dc7 pm7 an7 cd7 ct7), sl7⟩) (e7 : PySem.W.codeIn K cd7 "is_share" = true) (k7 : PySem.W.keepIn K (.ref f_7) = true)
    (a8 : PySem.W.nsIn K mainGlobals "_law_common" = some (some (.ref f_8))) (l8 : K.lookup f_8 = some ⟨oc8, od8, .func (PySem.W.fnOf "_law_common" "_law_common" (defArgs s__law_common) (defBody s__law_common) (defScope s__law_common) .none kV8 dc8 pm8 an8 cd8 ct8), sl8⟩) (e8 : PySem.W.codeIn K cd8 "_law_common" = true) (k8 : PySem.W.keepIn K (.ref f_8) = true)
    (a9 : PySem.W.nsIn K mainGlobals "_law_share" = some (some (.ref f_9))) (l9 : K.lookup f_9 = some ⟨oc9, od9, .func (PySem.W.fnOf "_law_share" "_law_share" (defArgs s__law_share) (defBody s__law_share) (defScope s__law_share) .none kV9 dc9 pm9 an9 cd9 ct9), sl9⟩) (e9 : PySem.W.codeIn K cd9 "_law_share" = true) (k9 : PySem.W.keepIn K (.ref f_9) = true)
    (a10 : PySem.W.nsIn K mainGlobals "_law_made_right" = some (some (.ref f_10))) (l10 : K.lookup f_10 = some ⟨oc10, od10, .func (PySem.W.fnOf "_law_made_right" "_law_made_right" (defArgs s__law_made_right) (defBody s__law_made_right) (defScope s__law_made_right) .none kV10 dc10 pm10 an10 cd10 ct10), sl10⟩) (e10 : PySem.W.codeIn K cd10 "_law_made_right" = true) (k10 : PySem.W.keepIn K (.ref f_10) = true)
    (a11 : PySem.W.nsIn K mainGlobals "_law_is_share" = some (some (.ref f_11))) (l11 : K.lookup f_11 = some ⟨oc11, od11, .func (PySem.W.fnOf "_law_is_share" "_law_is_share" (defArgs s__law_is_share) (defBody s__law_is_share) (defScope s__law_is_share) .none kV11 dc11 pm11 an11 cd11 ct11), sl11⟩) (e11 : PySem.W.codeIn K cd11 "_law_is_share" = true) (k11 : PySem.W.keepIn K (.ref f_11) = true)
    (a12 : PySem.W.nsIn K mainGlobals "law" = some (some (.ref f_12))) (l12 : K.lookup f_12 = some ⟨oc12, od12, .func (PySem.W.fnOf "law" "law" (defArgs s_law) (defBody s_law) (defScope s_law) .none kV12 dc12 pm12 an12 cd12 ct12), sl12⟩) (e12 : PySem.W.codeIn K cd12 "law" = true) (k12 : PySem.W.keepIn K (.ref f_12) = true)
    (z0 : PySem.W.nsIn K mainGlobals "KeyError" = some none)
    (z1 : PySem.W.nsIn K mainGlobals "ValueError" = some none)
    (z2 : PySem.W.nsIn K mainGlobals "ZeroDivisionError" = some none)
    (z3 : PySem.W.nsIn K mainGlobals "abs" = some none)
    (z4 : PySem.W.nsIn K mainGlobals "bool" = some none)
    (z5 : PySem.W.nsIn K mainGlobals "int" = some none)
    (z6 : PySem.W.nsIn K mainGlobals "isinstance" = some none)
    (z7 : PySem.W.nsIn K mainGlobals "len" = some none)
    (z8 : PySem.W.nsIn K mainGlobals "list" = some none)
    (z9 : PySem.W.nsIn K mainGlobals "range" = some none)
    (z10 : PySem.W.nsIn K mainGlobals "repr" = some none)
    (z11 : PySem.W.nsIn K mainGlobals "tuple" = some none)
    {to0 : Value} {td0 : Option Addr} {tn0 : Nat} {ts0 : Array (Option Value)} {tx0_0 : Tok} (t0 : K.lookup T_share_of = some ⟨to0, td0, .seq #[.int 1 tx0_0] tn0, ts0⟩)
    {q0 : Addr} {gn0 : Nat} {gs0 : Array (Option Value)} {gt0_0 : Tok} {gt0_1 : Tok} (g0 : PySem.W.nsIn K mainGlobals "HALF" = some (some (.ref q0))) (y0 : K.lookup q0 = some ⟨.type "tuple", none, .seq #[.int 1 gt0_0, .int 2 gt0_1] gn0, gs0⟩)
    {q1 : Addr} {gn1 : Nat} {gs1 : Array (Option Value)} {gt1_0 : Tok} {gt1_1 : Tok} (g1 : PySem.W.nsIn K mainGlobals "NOUGHT" = some (some (.ref q1))) (y1 : K.lookup q1 = some ⟨.type "tuple", none, .seq #[.int 0 gt1_0, .int 1 gt1_1] gn1, gs1⟩)
    {q2 : Addr} {gn2 : Nat} {gs2 : Array (Option Value)} {gt2_0 : Tok} {gt2_1 : Tok} (g2 : PySem.W.nsIn K mainGlobals "ONE" = some (some (.ref q2))) (y2 : K.lookup q2 = some ⟨.type "tuple", none, .seq #[.int 1 gt2_0, .int 1 gt2_1] gn2, gs2⟩)
    {C_NoShare : Addr} (cn0 : PySem.W.nsIn K mainGlobals "NoShare" = some (some (.ref C_NoShare))) (cx0 : PySem.W.excIn K C_NoShare [.type "ZeroDivisionError", .type "ArithmeticError", .type "Exception", .type "BaseException", .type "object"] "ZeroDivisionError.__new__" = true)
    (v0 : XM0 K mg "NoOrder")
    (v1 : XM0 K mg "NoWeight")
    (v2 : XMI K mg "NoCase" "part")
    (v3 : XMI K mg "NoText" "at")
    (v4 : XMI K mg "NoThing" "thing")
    (v5 : XQ1 K mg "CrossError" [("NoCase", true), ("NoOrder", true), ("NoShare", false), ("NoText", true), ("NoThing", false), ("NoWeight", true)])
    (v6 : XQ2 K mg "CrossError" "NoThing" [("NoCase", true), ("NoOrder", true), ("NoShare", false), ("NoText", true), ("NoThing", true), ("NoWeight", true)])
    (v7 : XQB K "KeyError" [("NoCase", false), ("NoOrder", false), ("NoShare", false), ("NoText", false), ("NoThing", true), ("NoWeight", false)])
    (v8 : XQ1 K mg "NoShare" [("NoCase", false), ("NoOrder", false), ("NoShare", true), ("NoText", false), ("NoThing", false), ("NoWeight", false)])
    (v9 : XQB K "ValueError" [("NoCase", true), ("NoOrder", true), ("NoShare", false), ("NoText", true), ("NoThing", false), ("NoWeight", true)])
    (v10 : XQB K "ZeroDivisionError" [("NoCase", false), ("NoOrder", false), ("NoShare", true), ("NoText", false), ("NoThing", false), ("NoWeight", false)])
    (v11 : XT3 K mg "CrossError" "NoShare" "NoThing" ["NoShare"])
    : ∃ fd : FuncData, (∀ (s : Shared) (v : Value), BindsTo s fd ⟨[v], []⟩ [("_law_script", v)]) ∧ ∀ base : Heap, K.In base → base.Ns mainGlobals mg → FnOk l.prog w K mg base CX0 4 fa fd ["_law_script"] (spF K 1 F_law) := by
  have e := hfa.symm.trans (PySem.W.mg_of X G a12)
  cases e
  have T : Txt K mg T_share_of := ⟨⟨_, _, _, _, _, t0⟩, PySem.W.mg_none_of X G z0, PySem.W.mg_none_of X G z1, PySem.W.mg_none_of X G z2, PySem.W.mg_none_of X G z3, PySem.W.mg_none_of X G z4, PySem.W.mg_none_of X G z5, PySem.W.mg_none_of X G z6, PySem.W.mg_none_of X G z7, PySem.W.mg_none_of X G z8, PySem.W.mg_none_of X G z9, PySem.W.mg_none_of X G z10, PySem.W.mg_none_of X G z11, ⟨C_NoShare, _, _, _, _, PySem.W.mg_of X G cn0, cx0, PySem.F.excBase_ZeroDivisionError⟩, v0, v1, v2, v3, v4, v5, v6, v7, v8, v9, v10, v11, ⟨_, PySem.W.mg_of X G g0, .ref q0, rfl, fun ρ H => .tup (ys := [V.int 1, V.int 2]) (.inr ⟨_, _, _, y0, rfl, rfl, rfl, (by rw [sizeLine_eq]; show 2 ≤ _; decide), (.cons ⟨_, rfl⟩ (.cons ⟨_, rfl⟩ .nil))⟩) (.cons (.int _) (.cons (.int _) .nil))⟩, ⟨_, PySem.W.mg_of X G g1, .ref q1, rfl, fun ρ H => .tup (ys := [V.int 0, V.int 1]) (.inr ⟨_, _, _, y1, rfl, rfl, rfl, (by rw [sizeLine_eq]; show 2 ≤ _; decide), (.cons ⟨_, rfl⟩ (.cons ⟨_, rfl⟩ .nil))⟩) (.cons (.int _) (.cons (.int _) .nil))⟩, ⟨_, PySem.W.mg_of X G g2, .ref q2, rfl, fun ρ H => .tup (ys := [V.int 1, V.int 1]) (.inr ⟨_, _, _, y2, rfl, rfl, rfl, (by rw [sizeLine_eq]; show 2 ≤ _; decide), (.cons ⟨_, rfl⟩ (.cons ⟨_, rfl⟩ .nil))⟩) (.cons (.int _) (.cons (.int _) .nil))⟩⟩
  refine ⟨PySem.W.fnOf "law" "law" (defArgs s_law) (defBody s_law) (defScope s_law) .none kV12 dc12 pm12 an12 cd12 ct12, fun s v => .of_eq rfl, fun base _ _ => ?_⟩
  have m0 : FunA K "_law_draw" "_law_draw" s__law_draw .none f_0 _ := ⟨⟨oc0, od0, kV0, dc0, pm0, an0, cd0, ct0, sl0, rfl, l0, e0⟩, k0⟩
  have h__law_draw := ok__law_draw (P := l.prog) (w := w) (base := base) T  ⟨_, _, PySem.W.mg_of X G a0, m0⟩
  have m1 : FunA K "_law_number" "_law_number" s__law_number .none f_1 _ := ⟨⟨oc1, od1, kV1, dc1, pm1, an1, cd1, ct1, sl1, rfl, l1, e1⟩, k1⟩
  have h__law_number := ok__law_number (P := l.prog) (w := w) (base := base) T h__law_draw ⟨_, _, PySem.W.mg_of X G a1, m1⟩
  have m2 : FunA K "common_divisor" "common_divisor" s_common_divisor .none f_2 _ := ⟨⟨oc2, od2, kV2, dc2, pm2, an2, cd2, ct2, sl2, rfl, l2, e2⟩, k2⟩
  have h_common_divisor := ok_common_divisor (P := l.prog) (w := w) (base := base) T  ⟨_, _, PySem.W.mg_of X G a2, m2⟩
  have m3 : FunA K "share_of" "share_of" s_share_of (.ref T_share_of) f_3 _ := ⟨⟨oc3, od3, kV3, dc3, pm3, an3, cd3, ct3, sl3, rfl, l3, e3⟩, k3⟩
  have h_share_of := ok_share_of (P := l.prog) (w := w) (base := base) T h_common_divisor ⟨_, _, PySem.W.mg_of X G a3, m3⟩
  have x_share_of := xk_share_of (P := l.prog) (w := w) (base := base) T  ⟨_, _, PySem.W.mg_of X G a3, m3⟩
  have m4 : FunA K "_law_refused" "_law_refused" s__law_refused .none f_4 _ := ⟨⟨oc4, od4, kV4, dc4, pm4, an4, cd4, ct4, sl4, rfl, l4, e4⟩, k4⟩
  have h__law_refused := ok__law_refused (P := l.prog) (w := w) (base := base) T h_share_of x_share_of ⟨_, _, PySem.W.mg_of X G a4, m4⟩
  have m5 : FunA K "is_tuple_of" "is_tuple_of" s_is_tuple_of .none f_5 _ := ⟨⟨oc5, od5, kV5, dc5, pm5, an5, cd5, ct5, sl5, rfl, l5, e5⟩, k5⟩
  have h_is_tuple_of := ok_is_tuple_of (P := l.prog) (w := w) (base := base) T  ⟨_, _, PySem.W.mg_of X G a5, m5⟩
  have m6 : FunA K "is_whole" "is_whole" s_is_whole .none f_6 _ := ⟨⟨oc6, od6, kV6, dc6, pm6, an6, cd6, ct6, sl6, rfl, l6, e6⟩, k6⟩
  have h_is_whole := ok_is_whole (P := l.prog) (w := w) (base := base) T  ⟨_, _, PySem.W.mg_of X G a6, m6⟩
  have m7 : FunA K "is_share" "is_share" s_is_share .none f_7 _ := ⟨⟨oc7, od7, kV7, dc7, pm7, an7, cd7, ct7, sl7, rfl, l7, e7⟩, k7⟩
  have h_is_share := ok_is_share (P := l.prog) (w := w) (base := base) T h_is_tuple_of h_is_whole h_common_divisor ⟨_, _, PySem.W.mg_of X G a7, m7⟩
  have m8 : FunA K "_law_common" "_law_common" s__law_common .none f_8 _ := ⟨⟨oc8, od8, kV8, dc8, pm8, an8, cd8, ct8, sl8, rfl, l8, e8⟩, k8⟩
  have h__law_common := ok__law_common (P := l.prog) (w := w) (base := base) T  ⟨_, _, PySem.W.mg_of X G a8, m8⟩
  have m9 : FunA K "_law_share" "_law_share" s__law_share .none f_9 _ := ⟨⟨oc9, od9, kV9, dc9, pm9, an9, cd9, ct9, sl9, rfl, l9, e9⟩, k9⟩
  have h__law_share := ok__law_share (P := l.prog) (w := w) (base := base) T h__law_common ⟨_, _, PySem.W.mg_of X G a9, m9⟩
  have m10 : FunA K "_law_made_right" "_law_made_right" s__law_made_right .none f_10 _ := ⟨⟨oc10, od10, kV10, dc10, pm10, an10, cd10, ct10, sl10, rfl, l10, e10⟩, k10⟩
  have h__law_made_right := ok__law_made_right (P := l.prog) (w := w) (base := base) T h_share_of h__law_share h_is_share ⟨_, _, PySem.W.mg_of X G a10, m10⟩
  have m11 : FunA K "_law_is_share" "_law_is_share" s__law_is_share .none f_11 _ := ⟨⟨oc11, od11, kV11, dc11, pm11, an11, cd11, ct11, sl11, rfl, l11, e11⟩, k11⟩
  have h__law_is_share := ok__law_is_share (P := l.prog) (w := w) (base := base) T h__law_common ⟨_, _, PySem.W.mg_of X G a11, m11⟩
  have m12 : FunA K "law" "law" s_law .none fa _ := ⟨⟨oc12, od12, kV12, dc12, pm12, an12, cd12, ct12, sl12, rfl, l12, e12⟩, k12⟩
  have h_law := ok_law (P := l.prog) (w := w) (base := base) T h__law_draw h__law_number h__law_refused h_share_of h__law_made_right h_is_share h__law_is_share ⟨_, _, PySem.W.mg_of X G a12, m12⟩
  obtain ⟨f, fd, q1, q2, q3⟩ := h_law.ex
  have q := q1.symm.trans (PySem.W.mg_of X G a12)
  cases q
  obtain ⟨_, _, _, _, _, _, _, _, _, q4, q5, _⟩ := q2.ex
  have q6 := q5.symm.trans l12
  simp only [Option.some.injEq, Obj.mk.injEq, Data.func.injEq] at q6
  obtain ⟨_, _, rfl, _⟩ := q6
  exact q3
end Mine
set_option Elab.async false
set_option linter.all false
set_option autoImplicit false
set_option maxRecDepth 100000
namespace Mine
open PySem PySem.Spec PyProof.Rows L2 EV
set_option maxHeartbeats 400000
theorem tq0 (z : Int) (h : AH) : EV.tB (eBin oEq (eVar 1) (eK (.int 0))) (startD 3 [.int z, .int 0]) h = .ok true h := by
  have e : oEq (.int 0) (.int 0) h = .ok (.bl true) h := oEq_i
  show (eBin oEq (eVar 1) (eK (.int 0)) (startD 3 [.int z, .int 0]) h).bind _ = _
  unfold eBin
  show (oEq (.int 0) (.int 0) h).bind _ = _
  rw [e]
  rfl
theorem fs_bad (z : Int) (h : AH) : F_share_of [.int z, .int 0] h = .bad := by
  unfold F_share_of mkFn B_share_of
  refine (if_pos (by rfl)).trans ?_
  unfold sSeq sIf
  rw [tq0]
  rfl
theorem fx_ex (z : Int) (h : AH) : FX_share_of [.int z, .int 0] h = .ex ⟨"NoShare", []⟩ h := by
  unfold FX_share_of mkFx XB_share_of
  refine (if_pos (by rfl)).trans ?_
  unfold xSeq xIf
  rw [tq0]
  have e : sRaise "NoShare" (aCons (eK (.str "no share has nought below")) aNil) (startD 3 [.int z, .int 0]) h = .ex ⟨"NoShare", []⟩ h := by
    unfold sRaise
    exact (if_pos (by rw [sizeLine_eq]; decide))
  dsimp only
  rw [if_pos rfl, e]
theorem try_d (z : Int) (h : AH) : sTryAs (sExpr (eApp F_share_of (aCons (eVar 0) (aCons (eK (.int 0)) aNil)))) (xDo (xApp FX_share_of (aCons (eVar 0) (aCons (eK (.int 0)) aNil)))) ["NoShare"] 1 2 [some (.int z), some .non, none] h = .ok (.next [some (.int z), some (.exc "NoShare" Str.empty []), none]) h := by
  have e1 : sExpr (eApp F_share_of (aCons (eVar 0) (aCons (eK (.int 0)) aNil))) [some (.int z), some .non, none] h = .bad := by
    show (F_share_of [.int z, .int 0] h).bind _ = _
    rw [fs_bad]; rfl
  have e2 : xDo (xApp FX_share_of (aCons (eVar 0) (aCons (eK (.int 0)) aNil))) [some (.int z), some .non, none] h = .ex ⟨"NoShare", []⟩ h := by
    show (match FX_share_of [.int z, .int 0] h with | .ex y h' => (.ex y h' : R D) | _ => .bad).bind _ = _
    rw [fx_ex]; rfl
  unfold sTryAs
  rw [e1, e2]
  dsimp only
  rw [if_pos ⟨by simp, rfl⟩]
  rfl
theorem refused_d (z : Int) (h : AH) : F__law_refused [.int z] h = .ok (.bl true) h := by
  unfold F__law_refused mkFn B__law_refused
  refine (if_pos (by rfl)).trans ?_
  have e : ∀ g, sSeq (sSet 1 (eK .non)) (sSeq (sTryAs (sExpr (eApp F_share_of (aCons (eVar 0) (aCons (eK (.int 0)) aNil)))) (xDo (xApp FX_share_of (aCons (eVar 0) (aCons (eK (.int 0)) aNil)))) ["NoShare"] 1 2) g) (startD 3 [.int z]) h = g [some (.int z), some (.exc "NoShare" Str.empty []), none] h := by
    intro g
    show (sTryAs (sExpr (eApp F_share_of (aCons (eVar 0) (aCons (eK (.int 0)) aNil)))) (xDo (xApp FX_share_of (aCons (eVar 0) (aCons (eK (.int 0)) aNil)))) ["NoShare"] 1 2 [some (.int z), some .non, none] h).bind _ = _
    rw [try_d]; rfl
  rw [e]
  have e2 : (sSeq (sIf (tOr2 (tNot1 (EV.tB (eIsX [("NoCase", false), ("NoOrder", false), ("NoShare", true), ("NoText", false), ("NoThing", false), ("NoWeight", false)] (eVar 1)))) (EV.tB (eIsX [("NoCase", true), ("NoOrder", true), ("NoShare", false), ("NoText", true), ("NoThing", true), ("NoWeight", true)] (eVar 1)))) (sRet (eK (.bl false))) sNext) (sRet (eIsX [("NoCase", false), ("NoOrder", false), ("NoShare", true), ("NoText", false), ("NoThing", false), ("NoWeight", false)] (eVar 1)))) [some (.int z), some (.exc "NoShare" Str.empty []), none] h = .ok (.ret (.bl true)) h := by rfl
  rw [e2]
  dsimp only
  rw [cut_len rfl]
noncomputable def W__law_refused : WF := fun ts c Q => match ts with | [.int _] => Q (.bl true) c | _ => False
theorem j__law_refused {S : PenSys} (jd : JF S F__law_draw wDraw) : JF S F__law_refused W__law_refused := fun p q B h c ds ts Q G r w => by
  unfold W__law_refused at w
  split at w
  · rename_i z
    cases r with
    | cons a b =>
      cases b
      cases a
      exact ⟨_, h, _, c, refused_d z h, Ge.refl, G, .bl _, w⟩
  · exact w.elim
end Mine
set_option Elab.async false
set_option linter.all false
set_option autoImplicit false
set_option maxRecDepth 100000
namespace Mine
open PySem PySem.Spec PyProof.Rows L2 EV
set_option maxHeartbeats 4000000
section
variable {S : PenSys} (jd : JF S F__law_draw wDraw)
include jd
omit jd
noncomputable def WB__law_number : WS := (wsSeq (wsSet 1 (wBin vAdd (wBin vMulA (wApp wDraw (wCons (wVar 0) (wCons (wBin vPow (wK (.int 10)) (wK (.int 6))) wNil))) (wBin vPow (wK (.int 10)) (wK (.int 6)))) (wApp wDraw (wCons (wVar 0) (wCons (wBin vPow (wK (.int 10)) (wK (.int 6))) wNil))))) (wsRet (wBin vIx (wLst (wCons (wK (.int 0)) (wCons (wK (.int 1)) (wCons (wNeg (wK (.int 1))) (wCons (wBin vSub (wApp wDraw (wCons (wVar 0) (wCons (wK (.int 25)) wNil))) (wK (.int 12))) (wCons (wVar 1) (wCons (wBin vSub (wK (.int 0)) (wVar 1)) (wCons (wK (.int 360)) (wCons (wBin vSub (wBin vPow (wK (.int 10)) (wK (.int 12))) (wK (.int 1))) wNil))))))))) (wApp wDraw (wCons (wVar 0) (wCons (wK (.int 8)) wNil))))))
noncomputable def W__law_number : WF := wFn 1 2 WB__law_number
theorem j__law_number (jd : JF S F__law_draw wDraw) : JF S F__law_number W__law_number := jf_of (O' := []) ((js_seq (js_set 1 (j_bin o2_add (JE.x (j_bin o2_mulA (JE.x (j_app jd (ja_cons (j_var 0) (ja_cons (j_bin o2_pow (JE.x (j_k fun _ _ _ => (.int _))) (JE.x (j_k fun _ _ _ => (.int _)))) ja_nil)))) (JE.x (j_bin o2_pow (JE.x (j_k fun _ _ _ => (.int _))) (JE.x (j_k fun _ _ _ => (.int _))))))) (JE.x (j_app jd (ja_cons (j_var 0) (ja_cons (j_bin o2_pow (JE.x (j_k fun _ _ _ => (.int _))) (JE.x (j_k fun _ _ _ => (.int _)))) ja_nil)))))) (js_ret (j_bin o2_ix (JE.x (JN.e (jn_lst (ja_cons (j_k fun _ _ _ => (.int _)) (ja_cons (j_k fun _ _ _ => (.int _)) (ja_cons (j_neg (j_k fun _ _ _ => (.int _))) (ja_cons (j_bin o2_sub (JE.x (j_app jd (ja_cons (j_var 0) (ja_cons (j_k fun _ _ _ => (.int _)) ja_nil)))) (JE.x (j_k fun _ _ _ => (.int _)))) (ja_cons (j_var 1) (ja_cons (j_bin o2_sub (JE.x (j_k fun _ _ _ => (.int _))) (JE.x (j_var 1))) (ja_cons (j_k fun _ _ _ => (.int _)) (ja_cons (j_bin o2_sub (JE.x (j_bin o2_pow (JE.x (j_k fun _ _ _ => (.int _))) (JE.x (j_k fun _ _ _ => (.int _))))) (JE.x (j_k fun _ _ _ => (.int _)))) ja_nil))))))))))) (JE.x (j_app jd (ja_cons (j_var 0) (ja_cons (j_k fun _ _ _ => (.int _)) ja_nil))))))))
noncomputable def WB_common_divisor : WS := (wsSeq (wsSet 0 (wB1 vAbs (wVar 0))) (wsSeq (wsSet 1 (wB1 vAbs (wVar 1))) (wsSeq (wsWhile (mIntT 1) (wB (wBin vNe (wVar 1) (wK (.int 0)))) (wsPar 0 1 (wVar 1) (wBin vMod (wVar 0) (wVar 1)))) (wsRet (wVar 0)))))
noncomputable def W_common_divisor : WF := wFn 2 2 WB_common_divisor
theorem j_common_divisor (jd : JF S F__law_draw wDraw) : JF S F_common_divisor W_common_divisor := jf_of (O' := []) ((js_seq (js_set 0 (j_b1 o1_abs (JE.x (j_var 0)))) (js_seq (js_set 1 (j_b1 o1_abs (JE.x (j_var 1)))) (js_seq (js_while 1 (jt_b (j_bin o2_ne (JE.x (j_var 1)) (JE.x (j_k fun _ _ _ => (.int _))))) (js_par 0 1 (j_var 1) (j_bin o2_mod (JE.x (j_var 0)) (JE.x (j_var 1))))) (js_ret (j_var 0))))))
noncomputable def WB_share_of : WS := (wsSeq (wsIf (wB (wBin vEq (wVar 1) (wK (.int 0)))) wsBad wsNext) (wsSeq (wsSet 2 (wApp W_common_divisor (wCons (wVar 0) (wCons (wVar 1) wNil)))) (wsSeq (wsIf (wB (wBin vLt (wVar 1) (wK (.int 0)))) (wsSet 2 (wNeg (wVar 2))) wsNext) (wsRet (wTup (wCons (wBin vFdiv (wVar 0) (wVar 2)) (wCons (wBin vFdiv (wVar 1) (wVar 2)) wNil)))))))
noncomputable def W_share_of : WF := wFn 2 3 WB_share_of
theorem j_share_of (jd : JF S F__law_draw wDraw) : JF S F_share_of W_share_of := jf_of (O' := []) ((js_seq (js_if (jt_b (j_bin o2_eq (JE.x (j_var 1)) (JE.x (j_k fun _ _ _ => (.int _))))) js_bad js_next) (js_seq (js_set 2 (j_app (j_common_divisor jd) (ja_cons (j_var 0) (ja_cons (j_var 1) ja_nil)))) (js_seq (js_if (jt_b (j_bin o2_lt (JE.x (j_var 1)) (JE.x (j_k fun _ _ _ => (.int _))))) (js_set 2 (j_neg (j_var 2))) js_next) (js_ret (j_tup (ja_cons (j_bin o2_fdiv (JE.x (j_var 0)) (JE.x (j_var 2))) (ja_cons (j_bin o2_fdiv (JE.x (j_var 1)) (JE.x (j_var 2))) ja_nil))))))))
noncomputable def WB_is_tuple_of : WS := (wsRet (wAnd2 (wIsi .tup (wVar 0)) (wChain vLe vLe (wVar 1) (wB1 vLen (wVar 0)) (wVar 2))))
noncomputable def W_is_tuple_of : WF := wFn 3 3 WB_is_tuple_of
theorem j_is_tuple_of (jd : JF S F__law_draw wDraw) : JF S F_is_tuple_of W_is_tuple_of := jf_of (O' := []) ((js_ret (j_and (j_isi .tup (JE.x (j_var 0))) (j_chain o2_le o2_le (JE.x (j_var 1)) (JE.x (j_b1 o1_len (JE.x (j_var 0)))) (JE.x (j_var 2))))))
noncomputable def WB_is_whole : WS := (wsRet (wAnd2 (wIsi .int (wVar 0)) (wNot1 (wIsi .bl (wVar 0)))))
noncomputable def W_is_whole : WF := wFn 1 1 WB_is_whole
theorem j_is_whole (jd : JF S F__law_draw wDraw) : JF S F_is_whole W_is_whole := jf_of (O' := []) ((js_ret (j_and (j_isi .int (JE.x (j_var 0))) (j_not (j_isi .bl (JE.x (j_var 0)))))))
noncomputable def WB_is_share : WS := (wsSeq (wsIf (wtNot (wB (wApp W_is_tuple_of (wCons (wVar 0) (wCons (wK (.int 2)) (wCons (wK (.int 2)) wNil)))))) (wsRet (wK (.bl false))) wsNext) (wsSeq (wsAsg (wVar 0) (wgSeq 2 (wgCons (wgSet 1) (wgCons (wgSet 2) wgNil)))) (wsSeq (wsIf (wtOr (wtNot (wB (wApp W_is_whole (wCons (wVar 1) wNil)))) (wtNot (wB (wApp W_is_whole (wCons (wVar 2) wNil))))) (wsRet (wK (.bl false))) wsNext) (wsRet (wAnd2 (wBin vGe (wVar 2) (wK (.int 1))) (wBin vEq (wApp W_common_divisor (wCons (wVar 1) (wCons (wVar 2) wNil))) (wK (.int 1))))))))
noncomputable def W_is_share : WF := wFn 1 3 WB_is_share
theorem j_is_share (jd : JF S F__law_draw wDraw) : JF S F_is_share W_is_share := jf_of (O' := []) ((js_seq (js_if (jt_not (jt_b (j_app (j_is_tuple_of jd) (ja_cons (j_var 0) (ja_cons (j_k fun _ _ _ => (.int _)) (ja_cons (j_k fun _ _ _ => (.int _)) ja_nil)))))) (js_ret (j_k fun _ _ _ => (.bl _))) js_next) (js_seq (js_asg (j_var 0) (jg_seq (jgs_cons (jg_set 1) (jgs_cons (jg_set 2) jgs_nil)))) (js_seq (js_if (jt_or (jt_not (jt_b (j_app (j_is_whole jd) (ja_cons (j_var 1) ja_nil)))) (jt_not (jt_b (j_app (j_is_whole jd) (ja_cons (j_var 2) ja_nil))))) (js_ret (j_k fun _ _ _ => (.bl _))) js_next) (js_ret (j_and (j_bin o2_ge (JE.x (j_var 2)) (JE.x (j_k fun _ _ _ => (.int _)))) (j_bin o2_eq (JE.x (j_app (j_common_divisor jd) (ja_cons (j_var 1) (ja_cons (j_var 2) ja_nil)))) (JE.x (j_k fun _ _ _ => (.int _))))))))))
noncomputable def WB__law_common : WS := (wsSeq (wsPar 0 1 (wB1 vAbs (wVar 0)) (wB1 vAbs (wVar 1))) (wsSeq (wsWhile (mIntT 1) (wB (wBin vGt (wVar 1) (wK (.int 0)))) (wsPar 0 1 (wVar 1) (wBin vMod (wVar 0) (wVar 1)))) (wsRet (wVar 0))))
noncomputable def W__law_common : WF := wFn 2 2 WB__law_common
theorem j__law_common (jd : JF S F__law_draw wDraw) : JF S F__law_common W__law_common := jf_of (O' := []) ((js_seq (js_par 0 1 (j_b1 o1_abs (JE.x (j_var 0))) (j_b1 o1_abs (JE.x (j_var 1)))) (js_seq (js_while 1 (jt_b (j_bin o2_gt (JE.x (j_var 1)) (JE.x (j_k fun _ _ _ => (.int _))))) (js_par 0 1 (j_var 1) (j_bin o2_mod (JE.x (j_var 0)) (JE.x (j_var 1))))) (js_ret (j_var 0)))))
noncomputable def WB__law_share : WS := (wsSeq (wsSet 2 (wApp W__law_common (wCons (wVar 0) (wCons (wVar 1) wNil)))) (wsSeq (wsIf (wB (wBin vLt (wVar 1) (wK (.int 0)))) (wsSet 2 (wBin vSub (wK (.int 0)) (wVar 2))) wsNext) (wsRet (wTup (wCons (wBin vFdiv (wVar 0) (wVar 2)) (wCons (wBin vFdiv (wVar 1) (wVar 2)) wNil))))))
noncomputable def W__law_share : WF := wFn 2 3 WB__law_share
theorem j__law_share (jd : JF S F__law_draw wDraw) : JF S F__law_share W__law_share := jf_of (O' := []) ((js_seq (js_set 2 (j_app (j__law_common jd) (ja_cons (j_var 0) (ja_cons (j_var 1) ja_nil)))) (js_seq (js_if (jt_b (j_bin o2_lt (JE.x (j_var 1)) (JE.x (j_k fun _ _ _ => (.int _))))) (js_set 2 (j_bin o2_sub (JE.x (j_k fun _ _ _ => (.int _))) (JE.x (j_var 2)))) js_next) (js_ret (j_tup (ja_cons (j_bin o2_fdiv (JE.x (j_var 0)) (JE.x (j_var 2))) (ja_cons (j_bin o2_fdiv (JE.x (j_var 1)) (JE.x (j_var 2))) ja_nil)))))))
noncomputable def WB__law_made_right : WS := (wsSeq (wsSet 2 (wApp W_share_of (wCons (wVar 0) (wCons (wVar 1) wNil)))) (wsSeq (wsIf (wtOr (wB (wBin vNe (wB1 vRepr (wVar 2)) (wB1 vRepr (wApp W__law_share (wCons (wVar 0) (wCons (wVar 1) wNil)))))) (wB (wBin vNotB (wApp W_is_share (wCons (wVar 2) wNil)) (wK (.bl true))))) (wsRet (wK (.bl false))) wsNext) (wsRet (wAnd2 (wBin vEq (wBin vMulA (wBin vIx (wVar 2) (wK (.int 0))) (wVar 1)) (wBin vMulA (wVar 0) (wBin vIx (wVar 2) (wK (.int 1))))) (wBin vEq (wB1 vRepr (wAppK W_share_of [1, 0] 0 2 wNil (wCons (wVar 1) (wCons (wVar 0) wNil)))) (wB1 vRepr (wVar 2)))))))
noncomputable def W__law_made_right : WF := wFn 2 3 WB__law_made_right
theorem j__law_made_right (jd : JF S F__law_draw wDraw) : JF S F__law_made_right W__law_made_right := jf_of (O' := []) ((js_seq (js_set 2 (j_app (j_share_of jd) (ja_cons (j_var 0) (ja_cons (j_var 1) ja_nil)))) (js_seq (js_if (jt_or (jt_b (j_bin o2_ne (JE.x (j_b1 o1_repr (JE.x (j_var 2)))) (JE.x (j_b1 o1_repr (JE.x (j_app (j__law_share jd) (ja_cons (j_var 0) (ja_cons (j_var 1) ja_nil)))))))) (jt_b (j_bin o2_notB (JE.x (j_app (j_is_share jd) (ja_cons (j_var 2) ja_nil))) (JE.x (j_k fun _ _ _ => (.bl _)))))) (js_ret (j_k fun _ _ _ => (.bl _))) js_next) (js_ret (j_and (j_bin o2_eq (JE.x (j_bin o2_mulA (JE.x (j_bin o2_ix (JE.x (j_var 2)) (JE.x (j_k fun _ _ _ => (.int _))))) (JE.x (j_var 1)))) (JE.x (j_bin o2_mulA (JE.x (j_var 0)) (JE.x (j_bin o2_ix (JE.x (j_var 2)) (JE.x (j_k fun _ _ _ => (.int _)))))))) (j_bin o2_eq (JE.x (j_b1 o1_repr (JE.x (j_appK (j_share_of jd) ja_nil (ja_cons (j_var 1) (ja_cons (j_var 0) ja_nil)))))) (JE.x (j_b1 o1_repr (JE.x (j_var 2))))))))))
noncomputable def WB__law_is_share : WS := (wsSeq (wsIf (wtOr (wtNot (wB (wIsi .tup (wVar 0)))) (wB (wBin vNe (wB1 vLen (wVar 0)) (wK (.int 2))))) (wsRet (wK (.bl false))) wsNext) (wsSeq (wsFor (wSeq (wVar 0)) (wgSet 1) (wsIf (wtOr (wtNot (wB (wIsi .int (wVar 1)))) (wB (wIsi .bl (wVar 1)))) (wsRet (wK (.bl false))) wsNext)) (wsRet (wAnd2 (wBin vGt (wBin vIx (wVar 0) (wK (.int 1))) (wK (.int 0))) (wBin vEq (wApp W__law_common (wCons (wBin vIx (wVar 0) (wK (.int 0))) (wCons (wBin vIx (wVar 0) (wK (.int 1))) wNil))) (wK (.int 1)))))))
noncomputable def W__law_is_share : WF := wFn 1 2 WB__law_is_share
theorem j__law_is_share (jd : JF S F__law_draw wDraw) : JF S F__law_is_share W__law_is_share := jf_of (O' := []) ((js_seq (js_if (jt_or (jt_not (jt_b (j_isi .tup (JE.x (j_var 0))))) (jt_b (j_bin o2_ne (JE.x (j_b1 o1_len (JE.x (j_var 0)))) (JE.x (j_k fun _ _ _ => (.int _)))))) (js_ret (j_k fun _ _ _ => (.bl _))) js_next) (js_seq (js_for (jis_seq (j_var 0)) (jg_set 1) (js_if (jt_or (jt_not (jt_b (j_isi .int (JE.x (j_var 1))))) (jt_b (j_isi .bl (JE.x (j_var 1))))) (js_ret (j_k fun _ _ _ => (.bl _))) js_next)) (js_ret (j_and (j_bin o2_gt (JE.x (j_bin o2_ix (JE.x (j_var 0)) (JE.x (j_k fun _ _ _ => (.int _))))) (JE.x (j_k fun _ _ _ => (.int _)))) (j_bin o2_eq (JE.x (j_app (j__law_common jd) (ja_cons (j_bin o2_ix (JE.x (j_var 0)) (JE.x (j_k fun _ _ _ => (.int _)))) (ja_cons (j_bin o2_ix (JE.x (j_var 0)) (JE.x (j_k fun _ _ _ => (.int _)))) ja_nil)))) (JE.x (j_k fun _ _ _ => (.int _)))))))))
noncomputable def WR_law : WS := (wsSeq (wsFor (wR1 (wK (.int 12))) (wgSet 2) (wsSeq (wsSet 6 (wBin vIx (wLst (wCons (wK (.int 1)) (wCons (wK (.int 2)) (wCons (wK (.int 6)) (wCons (wK (.int 97)) (wCons (wBin vPow (wK (.int 10)) (wK (.int 5))) wNil)))))) (wApp wDraw (wCons (wVar 1) (wCons (wK (.int 5)) wNil))))) (wsSeq (wsPar 9 10 (wBin vMulA (wApp W__law_number (wCons (wVar 1) wNil)) (wVar 6)) (wBin vMulA (wApp W__law_number (wCons (wVar 1) wNil)) (wVar 6))) (wsSeq (wsIf (wtOr (wtNot (wB (wApp W__law_refused (wCons (wVar 9) wNil)))) (wB (wBin vNe (wB1 vRepr (wAppD W_share_of [1] (wCons (wVar 9) wNil))) (wB1 vRepr (wTup (wCons (wVar 9) (wCons (wK (.int 1)) wNil))))))) (wsRet (wK (.bl false))) wsNext) (wsSeq (wsIf (wtAnd (wB (wBin vNe (wVar 10) (wK (.int 0)))) (wtNot (wB (wApp W__law_made_right (wCons (wVar 9) (wCons (wVar 10) wNil)))))) (wsRet (wK (.bl false))) wsNext) (wsSeq (wsSet 7 (wBin vIx (wLst (wCons (wK .non) (wCons (wK (.bl true)) (wCons (wK (.str "1")) (wCons (wTup (wCons (wK (.int 1)) wNil)) (wCons (wLst (wCons (wK (.int 1)) wNil)) (wCons (wVar 9) (wCons (wK (.int 0)) (wCons (wNeg (wK (.int 1))) wNil))))))))) (wApp wDraw (wCons (wVar 1) (wCons (wK (.int 8)) wNil))))) (wsSeq (wsSet 8 (wLst (wCons (wTup (wCons (wVar 9) (wCons (wVar 10) wNil))) (wCons (wTup (wCons (wVar 10) (wCons (wVar 9) wNil))) (wCons (wTup (wCons (wVar 9) (wCons (wB1 vAbs (wVar 10)) wNil))) (wCons (wTup (wCons (wVar 9) (wCons (wVar 10) (wCons (wK (.int 1)) wNil)))) (wCons (wTup (wCons (wVar 9) wNil)) (wCons (wLst (wCons (wVar 9) (wCons (wVar 10) wNil))) (wCons (wTup (wCons (wVar 7) (wCons (wK (.int 7)) wNil))) (wCons (wTup (wCons (wVar 9) (wCons (wVar 7) wNil))) (wCons (wVar 9) wNil))))))))))) (wsFor (wSeq (wVar 8)) (wgSet 3) (wsSeq (wsSet 11 (wB1 vRepr (wVar 3))) (wsSeq (wsIf (wtOr (wB (wBin vNe (wB1 vRepr (wApp W_is_share (wCons (wVar 3) wNil))) (wB1 vRepr (wApp W__law_is_share (wCons (wVar 3) wNil))))) (wB (wBin vNe (wB1 vRepr (wVar 3)) (wVar 11)))) (wsRet (wK (.bl false))) wsNext) (wsIf (wB (wBin vNe (wB1 vRepr (wAppK W_is_share [0] 0 1 wNil (wCons (wVar 3) wNil))) (wB1 vRepr (wApp W__law_is_share (wCons (wVar 3) wNil))))) (wsRet (wK (.bl false))) wsNext))))))))))) (wsSeq (wsFor (wSeq (wTup (wCons (wK .non) (wCons (wK (.bl true)) (wCons (wK (.str "1/2")) (wCons (wLst wNil) (wCons wDict0 (wCons (wTup wNil) (wCons (wTup (wCons (wK (.int 0)) (wCons (wK (.int 1)) wNil))) (wCons (wTup (wCons (wK (.int 0)) (wCons (wK (.int 2)) wNil))) (wCons (wTup (wCons (wK (.bl true)) (wCons (wK (.int 1)) wNil))) (wCons (wTup (wCons (wTup (wCons (wK (.int 1)) (wCons (wK (.int 2)) wNil))) (wCons (wK (.int 1)) wNil))) wNil)))))))))))) (wgSet 3) (wsIf (wB (wBin vNe (wB1 vRepr (wApp W_is_share (wCons (wVar 3) wNil))) (wB1 vRepr (wApp W__law_is_share (wCons (wVar 3) wNil))))) (wsRet (wK (.bl false))) wsNext)) (wsSeq (wsSet 4 (wLst (wCons (wK (.str "line")) (wCons (wK (.int 3)) (wCons (wTup (wCons (wK (.str "turn")) (wCons (wK (.int 1)) wNil))) (wCons (wK .non) (wCons (wK (.tup [(.int 0), (.int 1)])) (wCons (wK (.tup [(.int 1), (.int 1)])) (wCons (wK (.tup [(.int 1), (.int 2)])) wNil))))))))) (wsSeq (wsSet 5 (wLst (wCons (wIsX [("NoCase", true), ("NoOrder", true), ("NoShare", false), ("NoText", true), ("NoThing", false), ("NoWeight", true)] (wMk0 "NoOrder" (wK (.str "x")))) (wCons (wIsX [("NoCase", true), ("NoOrder", true), ("NoShare", false), ("NoText", true), ("NoThing", false), ("NoWeight", true)] (wMk0 "NoWeight" (wK (.str "x")))) wNil)))) (wsSeq (wsAppend 5 (wIsX [("NoCase", false), ("NoOrder", false), ("NoShare", false), ("NoText", false), ("NoThing", true), ("NoWeight", false)] (wMk "NoThing" "thing" (wK (.int 1))))) (wsRet (wAnd2 (wBin vEq (wVar 4) (wLst (wCons (wK (.str "line")) (wCons (wK (.int 3)) (wCons (wTup (wCons (wK (.str "turn")) (wCons (wK (.int 1)) wNil))) (wCons (wK .non) (wCons (wTup (wCons (wK (.int 0)) (wCons (wK (.int 1)) wNil))) (wCons (wTup (wCons (wK (.int 1)) (wCons (wK (.int 1)) wNil))) (wCons (wTup (wCons (wK (.int 1)) (wCons (wK (.int 2)) wNil))) wNil))))))))) (wBin vEq (wVar 5) (wBin vMulA (wLst (wCons (wK (.bl true)) wNil)) (wK (.int 3)))))))))))
theorem jr_law (jd : JF S F__law_draw wDraw) : JS S false [] [] [] BR_law WR_law := (js_seq (js_for (jis_r1 (j_k fun _ _ _ => (.int _))) (jg_set 2) (js_seq (js_set 6 (j_bin o2_ix (JE.x (JN.e (jn_lst (ja_cons (j_k fun _ _ _ => (.int _)) (ja_cons (j_k fun _ _ _ => (.int _)) (ja_cons (j_k fun _ _ _ => (.int _)) (ja_cons (j_k fun _ _ _ => (.int _)) (ja_cons (j_bin o2_pow (JE.x (j_k fun _ _ _ => (.int _))) (JE.x (j_k fun _ _ _ => (.int _)))) ja_nil)))))))) (JE.x (j_app jd (ja_cons (j_var 1) (ja_cons (j_k fun _ _ _ => (.int _)) ja_nil)))))) (js_seq (js_par 9 10 (j_bin o2_mulA (JE.x (j_app (j__law_number jd) (ja_cons (j_var 1) ja_nil))) (JE.x (j_var 6))) (j_bin o2_mulA (JE.x (j_app (j__law_number jd) (ja_cons (j_var 1) ja_nil))) (JE.x (j_var 6)))) (js_seq (js_if (jt_or (jt_not (jt_b (j_app (j__law_refused jd) (ja_cons (j_var 9) ja_nil)))) (jt_b (j_bin o2_ne (JE.x (j_b1 o1_repr (JE.x (j_appD (j_share_of jd) (ja_cons (j_var 9) ja_nil))))) (JE.x (j_b1 o1_repr (JE.x (j_tup (ja_cons (j_var 9) (ja_cons (j_k fun _ _ _ => (.int _)) ja_nil))))))))) (js_ret (j_k fun _ _ _ => (.bl _))) js_next) (js_seq (js_if (jt_and (jt_b (j_bin o2_ne (JE.x (j_var 10)) (JE.x (j_k fun _ _ _ => (.int _))))) (jt_not (jt_b (j_app (j__law_made_right jd) (ja_cons (j_var 9) (ja_cons (j_var 10) ja_nil)))))) (js_ret (j_k fun _ _ _ => (.bl _))) js_next) (js_seq (js_set 7 (j_bin o2_ix (JE.x (JN.e (jn_lst (ja_cons (j_k fun _ _ _ => .non) (ja_cons (j_k fun _ _ _ => (.bl _)) (ja_cons (j_k fun _ _ _ => (.str _)) (ja_cons (j_tup (ja_cons (j_k fun _ _ _ => (.int _)) ja_nil)) (ja_cons (JN.e (jn_lst (ja_cons (j_k fun _ _ _ => (.int _)) ja_nil))) (ja_cons (j_var 9) (ja_cons (j_k fun _ _ _ => (.int _)) (ja_cons (j_neg (j_k fun _ _ _ => (.int _))) ja_nil))))))))))) (JE.x (j_app jd (ja_cons (j_var 1) (ja_cons (j_k fun _ _ _ => (.int _)) ja_nil)))))) (js_seq (js_set 8 (JN.e (jn_lst (ja_cons (j_tup (ja_cons (j_var 9) (ja_cons (j_var 10) ja_nil))) (ja_cons (j_tup (ja_cons (j_var 10) (ja_cons (j_var 9) ja_nil))) (ja_cons (j_tup (ja_cons (j_var 9) (ja_cons (j_b1 o1_abs (JE.x (j_var 10))) ja_nil))) (ja_cons (j_tup (ja_cons (j_var 9) (ja_cons (j_var 10) (ja_cons (j_k fun _ _ _ => (.int _)) ja_nil)))) (ja_cons (j_tup (ja_cons (j_var 9) ja_nil)) (ja_cons (JN.e (jn_lst (ja_cons (j_var 9) (ja_cons (j_var 10) ja_nil)))) (ja_cons (j_tup (ja_cons (j_var 7) (ja_cons (j_k fun _ _ _ => (.int _)) ja_nil))) (ja_cons (j_tup (ja_cons (j_var 9) (ja_cons (j_var 7) ja_nil))) (ja_cons (j_var 9) ja_nil)))))))))))) (js_for (jis_seq (j_var 8)) (jg_set 3) (js_seq (js_set 11 (j_b1 o1_repr (JE.x (j_var 3)))) (js_seq (js_if (jt_or (jt_b (j_bin o2_ne (JE.x (j_b1 o1_repr (JE.x (j_app (j_is_share jd) (ja_cons (j_var 3) ja_nil))))) (JE.x (j_b1 o1_repr (JE.x (j_app (j__law_is_share jd) (ja_cons (j_var 3) ja_nil))))))) (jt_b (j_bin o2_ne (JE.x (j_b1 o1_repr (JE.x (j_var 3)))) (JE.x (j_var 11))))) (js_ret (j_k fun _ _ _ => (.bl _))) js_next) (js_if (jt_b (j_bin o2_ne (JE.x (j_b1 o1_repr (JE.x (j_appK (j_is_share jd) ja_nil (ja_cons (j_var 3) ja_nil))))) (JE.x (j_b1 o1_repr (JE.x (j_app (j__law_is_share jd) (ja_cons (j_var 3) ja_nil))))))) (js_ret (j_k fun _ _ _ => (.bl _))) js_next))))))))))) (js_seq (js_for (jis_seq (j_tup (ja_cons (j_k fun _ _ _ => .non) (ja_cons (j_k fun _ _ _ => (.bl _)) (ja_cons (j_k fun _ _ _ => (.str _)) (ja_cons (JN.e (jn_lst ja_nil)) (ja_cons (JN.e jn_dict0) (ja_cons (j_tup ja_nil) (ja_cons (j_tup (ja_cons (j_k fun _ _ _ => (.int _)) (ja_cons (j_k fun _ _ _ => (.int _)) ja_nil))) (ja_cons (j_tup (ja_cons (j_k fun _ _ _ => (.int _)) (ja_cons (j_k fun _ _ _ => (.int _)) ja_nil))) (ja_cons (j_tup (ja_cons (j_k fun _ _ _ => (.bl _)) (ja_cons (j_k fun _ _ _ => (.int _)) ja_nil))) (ja_cons (j_tup (ja_cons (j_tup (ja_cons (j_k fun _ _ _ => (.int _)) (ja_cons (j_k fun _ _ _ => (.int _)) ja_nil))) (ja_cons (j_k fun _ _ _ => (.int _)) ja_nil))) ja_nil)))))))))))) (jg_set 3) (js_if (jt_b (j_bin o2_ne (JE.x (j_b1 o1_repr (JE.x (j_app (j_is_share jd) (ja_cons (j_var 3) ja_nil))))) (JE.x (j_b1 o1_repr (JE.x (j_app (j__law_is_share jd) (ja_cons (j_var 3) ja_nil))))))) (js_ret (j_k fun _ _ _ => (.bl _))) js_next)) (js_seq (js_set 4 (JN.e (jn_lst (ja_cons (j_k fun _ _ _ => (.str _)) (ja_cons (j_k fun _ _ _ => (.int _)) (ja_cons (j_tup (ja_cons (j_k fun _ _ _ => (.str _)) (ja_cons (j_k fun _ _ _ => (.int _)) ja_nil))) (ja_cons (j_k fun _ _ _ => .non) (ja_cons (j_k fun _ _ _ => (.tup (.cons (.int _) (.cons (.int _) .nil)))) (ja_cons (j_k fun _ _ _ => (.tup (.cons (.int _) (.cons (.int _) .nil)))) (ja_cons (j_k fun _ _ _ => (.tup (.cons (.int _) (.cons (.int _) .nil)))) ja_nil)))))))))) (js_seq (js_setN (O' := [5]) 5 (jn_lst (ja_cons (j_isX (j_mk0 (j_k fun _ _ _ => (.str _)))) (ja_cons (j_isX (j_mk0 (j_k fun _ _ _ => (.str _)))) ja_nil))) (by intro j; simp only [List.mem_cons, List.not_mem_nil, or_false] <;> omega)) (js_seq (JS.post (O2 := []) (js_append 5 (j_isX (j_mk (j_k fun _ _ _ => (.int _)))))) (js_ret (j_and (j_bin o2_eq (JE.x (j_var 4)) (JE.x (JN.e (jn_lst (ja_cons (j_k fun _ _ _ => (.str _)) (ja_cons (j_k fun _ _ _ => (.int _)) (ja_cons (j_tup (ja_cons (j_k fun _ _ _ => (.str _)) (ja_cons (j_k fun _ _ _ => (.int _)) ja_nil))) (ja_cons (j_k fun _ _ _ => .non) (ja_cons (j_tup (ja_cons (j_k fun _ _ _ => (.int _)) (ja_cons (j_k fun _ _ _ => (.int _)) ja_nil))) (ja_cons (j_tup (ja_cons (j_k fun _ _ _ => (.int _)) (ja_cons (j_k fun _ _ _ => (.int _)) ja_nil))) (ja_cons (j_tup (ja_cons (j_k fun _ _ _ => (.int _)) (ja_cons (j_k fun _ _ _ => (.int _)) ja_nil))) ja_nil))))))))))) (j_bin o2_eq (JE.x (j_var 5)) (JE.x (j_bin o2_mulA (JE.x (JN.e (jn_lst (ja_cons (j_k fun _ _ _ => (.bl _)) ja_nil)))) (JE.x (j_k fun _ _ _ => (.int _)))))))))))))
end
end Mine
set_option Elab.async false
set_option linter.all false
set_option autoImplicit false
set_option maxRecDepth 100000
namespace Mine
open PySem PySem.Spec PyProof.Rows L2 EV
set_option maxHeartbeats 1000000
local macro_rules | `(tactic| simp! only [$xs,*]) => `(tactic| simp only [wBin_d, wB2_d, wB1_d, wVar_d, wK_d, wNil_d, wCons_d, wTup_d, wLst_d, wIf_d, wAnd2_d, wOr2_d, wOrT_d, wAndT_d, wNot1_d, wNeg_d, wChain_d, wB_d, wTru_d, wtNot_d, wtAnd_d, wtOr_d, wtTrue_d, woNone_d, woSome_d, wSl_d, wSlL_d, wRevA_d, wApp_d, wAppK_d, wIsi_d, wSeq_d, wR1_d, wR2_d, wEnum_d, wLC_d, wDict0_d, wgSet_d, wgNil_d, wgCons_d, wgSeq_t, wgSeq_l, wsNext_d, wsBrk_d, wsCont_d, wsSeq_d, wsIf_d, wsExpr_d, wsRet_d, wsSet_d, wsPar_d, wsPar3_d, wsAsg_d, wsAppend_d, wsExtend_d, wsReverse_d, wsFor_d, wsWhile_d, wFn_d, wFnN_d, wDraw_d, vSub_d, vLt_d, vLe_d, vGt_d, vGe_d, vMax2_d, vMin2_d, vMul_t, vMul_l, vAdd_d, vAdd_t, vAdd_l, vCat_d, vEq_i, vNe_i, vEq_s, vNe_s, vIx_t, vIx_l, tAt_0, tAt_1, tAt_2, vAbs_d, vLen_t, vLen_l, vTuple_l, vTuple_t, vList_l, vList_t, vInt_b, vInt_i, vNotB_d, vIsN_d, vNotN_d, vIx_sh0, vIx_sh1, vEq_sh, vNe_sh, EV.startT, List.map_cons, List.map_nil, List.length_cons, List.length_nil, List.replicate_succ, List.replicate_zero, List.nil_append, List.cons_append, List.append_nil, List.getElem?_cons_zero, List.getElem?_cons_succ, List.set_cons_zero, List.set_cons_succ, Nat.reduceAdd, Nat.reduceSub, Nat.zero_add, wipeT, mIntT, sel, List.filterMap_cons, List.filterMap_nil, Bool.false_eq_true, if_false, if_true, true_and, and_true, and_self, Bool.and_self, Bool.not_true, Bool.not_false, decide_true, decide_false, Option.getD_some, $xs,*])
local macro_rules | `(tactic| simp! only [$xs,*] $l:location) => `(tactic| simp only [wBin_d, wB2_d, wB1_d, wVar_d, wK_d, wNil_d, wCons_d, wTup_d, wLst_d, wIf_d, wAnd2_d, wOr2_d, wOrT_d, wAndT_d, wNot1_d, wNeg_d, wChain_d, wB_d, wTru_d, wtNot_d, wtAnd_d, wtOr_d, wtTrue_d, woNone_d, woSome_d, wSl_d, wSlL_d, wRevA_d, wApp_d, wAppK_d, wIsi_d, wSeq_d, wR1_d, wR2_d, wEnum_d, wLC_d, wDict0_d, wgSet_d, wgNil_d, wgCons_d, wgSeq_t, wgSeq_l, wsNext_d, wsBrk_d, wsCont_d, wsSeq_d, wsIf_d, wsExpr_d, wsRet_d, wsSet_d, wsPar_d, wsPar3_d, wsAsg_d, wsAppend_d, wsExtend_d, wsReverse_d, wsFor_d, wsWhile_d, wFn_d, wFnN_d, wDraw_d, vSub_d, vLt_d, vLe_d, vGt_d, vGe_d, vMax2_d, vMin2_d, vMul_t, vMul_l, vAdd_d, vAdd_t, vAdd_l, vCat_d, vEq_i, vNe_i, vEq_s, vNe_s, vIx_t, vIx_l, tAt_0, tAt_1, tAt_2, vAbs_d, vLen_t, vLen_l, vTuple_l, vTuple_t, vList_l, vList_t, vInt_b, vInt_i, vNotB_d, vIsN_d, vNotN_d, vIx_sh0, vIx_sh1, vEq_sh, vNe_sh, EV.startT, List.map_cons, List.map_nil, List.length_cons, List.length_nil, List.replicate_succ, List.replicate_zero, List.nil_append, List.cons_append, List.append_nil, List.getElem?_cons_zero, List.getElem?_cons_succ, List.set_cons_zero, List.set_cons_succ, Nat.reduceAdd, Nat.reduceSub, Nat.zero_add, wipeT, mIntT, sel, List.filterMap_cons, List.filterMap_nil, Bool.false_eq_true, if_false, if_true, true_and, and_true, and_self, Bool.and_self, Bool.not_true, Bool.not_false, decide_true, decide_false, Option.getD_some, $xs,*] $l:location)
local macro_rules | `(tactic| dsimp! only [$xs,*]) => `(tactic| simp only [wBin_d, wB2_d, wB1_d, wVar_d, wK_d, wNil_d, wCons_d, wTup_d, wLst_d, wIf_d, wAnd2_d, wOr2_d, wOrT_d, wAndT_d, wNot1_d, wNeg_d, wChain_d, wB_d, wTru_d, wtNot_d, wtAnd_d, wtOr_d, wtTrue_d, woNone_d, woSome_d, wSl_d, wSlL_d, wRevA_d, wApp_d, wAppK_d, wIsi_d, wSeq_d, wR1_d, wR2_d, wEnum_d, wLC_d, wDict0_d, wgSet_d, wgNil_d, wgCons_d, wgSeq_t, wgSeq_l, wsNext_d, wsBrk_d, wsCont_d, wsIf_d, wsExpr_d, wsRet_d, wsSet_d, wsPar_d, wsPar3_d, wsAsg_d, wsAppend_d, wsExtend_d, wsReverse_d, wsFor_d, wsWhile_d, wFn_d, wFnN_d, wDraw_d, vSub_d, vLt_d, vLe_d, vGt_d, vGe_d, vMax2_d, vMin2_d, vMul_t, vMul_l, vAdd_d, vAdd_t, vAdd_l, vCat_d, vEq_i, vNe_i, vEq_s, vNe_s, vIx_t, vIx_l, tAt_0, tAt_1, tAt_2, vAbs_d, vLen_t, vLen_l, vTuple_l, vTuple_t, vList_l, vList_t, vInt_b, vInt_i, vNotB_d, vIsN_d, vNotN_d, vIx_sh0, vIx_sh1, vEq_sh, vNe_sh, EV.startT, List.map_cons, List.map_nil, List.length_cons, List.length_nil, List.replicate_succ, List.replicate_zero, List.nil_append, List.cons_append, List.append_nil, List.getElem?_cons_zero, List.getElem?_cons_succ, List.set_cons_zero, List.set_cons_succ, Nat.reduceAdd, Nat.reduceSub, Nat.zero_add, wipeT, mIntT, sel, List.filterMap_cons, List.filterMap_nil, Bool.false_eq_true, if_false, if_true, true_and, and_true, and_self, Bool.and_self, Bool.not_true, Bool.not_false, decide_true, decide_false, Option.getD_some, $xs,*])
local macro_rules | `(tactic| dsimp! only [$xs,*] $l:location) => `(tactic| simp only [wBin_d, wB2_d, wB1_d, wVar_d, wK_d, wNil_d, wCons_d, wTup_d, wLst_d, wIf_d, wAnd2_d, wOr2_d, wOrT_d, wAndT_d, wNot1_d, wNeg_d, wChain_d, wB_d, wTru_d, wtNot_d, wtAnd_d, wtOr_d, wtTrue_d, woNone_d, woSome_d, wSl_d, wSlL_d, wRevA_d, wApp_d, wAppK_d, wIsi_d, wSeq_d, wR1_d, wR2_d, wEnum_d, wLC_d, wDict0_d, wgSet_d, wgNil_d, wgCons_d, wgSeq_t, wgSeq_l, wsNext_d, wsBrk_d, wsCont_d, wsIf_d, wsExpr_d, wsRet_d, wsSet_d, wsPar_d, wsPar3_d, wsAsg_d, wsAppend_d, wsExtend_d, wsReverse_d, wsFor_d, wsWhile_d, wFn_d, wFnN_d, wDraw_d, vSub_d, vLt_d, vLe_d, vGt_d, vGe_d, vMax2_d, vMin2_d, vMul_t, vMul_l, vAdd_d, vAdd_t, vAdd_l, vCat_d, vEq_i, vNe_i, vEq_s, vNe_s, vIx_t, vIx_l, tAt_0, tAt_1, tAt_2, vAbs_d, vLen_t, vLen_l, vTuple_l, vTuple_t, vList_l, vList_t, vInt_b, vInt_i, vNotB_d, vIsN_d, vNotN_d, vIx_sh0, vIx_sh1, vEq_sh, vNe_sh, EV.startT, List.map_cons, List.map_nil, List.length_cons, List.length_nil, List.replicate_succ, List.replicate_zero, List.nil_append, List.cons_append, List.append_nil, List.getElem?_cons_zero, List.getElem?_cons_succ, List.set_cons_zero, List.set_cons_succ, Nat.reduceAdd, Nat.reduceSub, Nat.zero_add, wipeT, mIntT, sel, List.filterMap_cons, List.filterMap_nil, Bool.false_eq_true, if_false, if_true, true_and, and_true, and_self, Bool.and_self, Bool.not_true, Bool.not_false, decide_true, decide_false, Option.getD_some, $xs,*] $l:location)
theorem is_whole_eq {x : T} (hx : x.nopen = true) {c : Nat} {Q : QT} : W_is_whole [x] c Q = Q (.bl x.isInt) c := by
  unfold W_is_whole WB_is_whole
  obtain ⟨y, e⟩ := T.ty_of hx
  simp! only [e]
  cases x <;> cases e <;> rfl
theorem is_tuple_of_eq {x : T} (hx : x.nopen = true) {a b : Int} {c : Nat} {Q : QT} : W_is_tuple_of [x, .int a, .int b] c Q = Q (.bl (x.tupB a b)) c := by
  unfold W_is_tuple_of WB_is_tuple_of
  obtain ⟨y, e⟩ := T.ty_of hx
  simp! only [e]
  cases x with
  | tup xs =>
    cases e
    simp! only [isSub, T.tupB, Bool.true_or]
    by_cases q : a ≤ (xs.length : Int)
    · simp only [decide_eq_true q, Bool.true_and]
    · simp only [decide_eq_false q, Bool.false_and]
  | _ => first | (cases e; rfl) | cases e
theorem two_le : (2 ≤ sizeLine) := by rw [sizeLine_eq]; decide
theorem common_divisor_eq {a b : Int} {c : Nat} {Q : QT} : W_common_divisor [.int a, .int b] c Q = Q (.int (Int.gcd a b)) c := by
  have w := euclidT (θ := (wB (wBin vNe (wVar 1) (wK (.int 0))))) (β := wsPar 0 1 (wVar 1) (wBin vMod (wVar 0) (wVar 1))) (fun n m => [some (.int n), some (.int m)])
    (fun n m c K hn hm => by simp! only []; congr 1; by_cases q : m = 0 <;> simp [q])
    (fun n m c K hn hm => by simp (disch := omega) only [wBin_d, wB2_d, wB1_d, wVar_d, wK_d, wNil_d, wCons_d, wTup_d, wLst_d, wIf_d, wAnd2_d, wOr2_d, wOrT_d, wAndT_d, wNot1_d, wNeg_d, wChain_d, wB_d, wTru_d, wtNot_d, wtAnd_d, wtOr_d, wtTrue_d, woNone_d, woSome_d, wSl_d, wSlL_d, wRevA_d, wApp_d, wAppK_d, wIsi_d, wSeq_d, wR1_d, wR2_d, wEnum_d, wLC_d, wDict0_d, wgSet_d, wgNil_d, wgCons_d, wgSeq_t, wgSeq_l, wsNext_d, wsBrk_d, wsCont_d, wsSeq_d, wsIf_d, wsExpr_d, wsRet_d, wsSet_d, wsPar_d, wsPar3_d, wsAsg_d, wsAppend_d, wsExtend_d, wsReverse_d, wsFor_d, wsWhile_d, wFn_d, wFnN_d, wDraw_d, vSub_d, vLt_d, vLe_d, vGt_d, vGe_d, vMax2_d, vMin2_d, vMul_t, vMul_l, vAdd_d, vAdd_t, vAdd_l, vCat_d, vEq_i, vNe_i, vEq_s, vNe_s, vIx_t, vIx_l, tAt_0, tAt_1, tAt_2, vAbs_d, vLen_t, vLen_l, vTuple_l, vTuple_t, vList_l, vList_t, vInt_b, vInt_i, vNotB_d, vIsN_d, vNotN_d, vIx_sh0, vIx_sh1, vEq_sh, vNe_sh, EV.startT, List.map_cons, List.map_nil, List.length_cons, List.length_nil, List.replicate_succ, List.replicate_zero, List.nil_append, List.cons_append, List.append_nil, List.getElem?_cons_zero, List.getElem?_cons_succ, List.set_cons_zero, List.set_cons_succ, Nat.reduceAdd, Nat.reduceSub, Nat.zero_add, wipeT, mIntT, sel, List.filterMap_cons, List.filterMap_nil, Bool.false_eq_true, if_false, if_true, true_and, and_true, and_self, Bool.and_self, Bool.not_true, Bool.not_false, decide_true, decide_false, Option.getD_some, vMod_p])
  unfold W_common_divisor WB_common_divisor
  simp! only []
  rw [w _ _ _ _ _ (by split <;> omega) (by split <;> omega) (by omega), gcd_abs]
  rfl
theorem _law_common_eq {a b : Int} {c : Nat} {Q : QT} : W__law_common [.int a, .int b] c Q = Q (.int (Int.gcd a b)) c := by
  have w := euclidT (θ := (wB (wBin vGt (wVar 1) (wK (.int 0))))) (β := wsPar 0 1 (wVar 1) (wBin vMod (wVar 0) (wVar 1))) (fun n m => [some (.int n), some (.int m)])
    (fun n m c K hn hm => by simp! only []; congr 1; by_cases q : m = 0 <;> simp [q] <;> omega)
    (fun n m c K hn hm => by simp (disch := omega) only [wBin_d, wB2_d, wB1_d, wVar_d, wK_d, wNil_d, wCons_d, wTup_d, wLst_d, wIf_d, wAnd2_d, wOr2_d, wOrT_d, wAndT_d, wNot1_d, wNeg_d, wChain_d, wB_d, wTru_d, wtNot_d, wtAnd_d, wtOr_d, wtTrue_d, woNone_d, woSome_d, wSl_d, wSlL_d, wRevA_d, wApp_d, wAppK_d, wIsi_d, wSeq_d, wR1_d, wR2_d, wEnum_d, wLC_d, wDict0_d, wgSet_d, wgNil_d, wgCons_d, wgSeq_t, wgSeq_l, wsNext_d, wsBrk_d, wsCont_d, wsSeq_d, wsIf_d, wsExpr_d, wsRet_d, wsSet_d, wsPar_d, wsPar3_d, wsAsg_d, wsAppend_d, wsExtend_d, wsReverse_d, wsFor_d, wsWhile_d, wFn_d, wFnN_d, wDraw_d, vSub_d, vLt_d, vLe_d, vGt_d, vGe_d, vMax2_d, vMin2_d, vMul_t, vMul_l, vAdd_d, vAdd_t, vAdd_l, vCat_d, vEq_i, vNe_i, vEq_s, vNe_s, vIx_t, vIx_l, tAt_0, tAt_1, tAt_2, vAbs_d, vLen_t, vLen_l, vTuple_l, vTuple_t, vList_l, vList_t, vInt_b, vInt_i, vNotB_d, vIsN_d, vNotN_d, vIx_sh0, vIx_sh1, vEq_sh, vNe_sh, EV.startT, List.map_cons, List.map_nil, List.length_cons, List.length_nil, List.replicate_succ, List.replicate_zero, List.nil_append, List.cons_append, List.append_nil, List.getElem?_cons_zero, List.getElem?_cons_succ, List.set_cons_zero, List.set_cons_succ, Nat.reduceAdd, Nat.reduceSub, Nat.zero_add, wipeT, mIntT, sel, List.filterMap_cons, List.filterMap_nil, Bool.false_eq_true, if_false, if_true, true_and, and_true, and_self, Bool.and_self, Bool.not_true, Bool.not_false, decide_true, decide_false, Option.getD_some, vMod_p])
  unfold W__law_common WB__law_common
  simp! only []
  rw [w _ _ _ _ _ (by split <;> omega) (by split <;> omega) (by omega), gcd_abs]
  rfl
theorem share_of_eq {a b : Int} {c : Nat} {Q : QT} (hb : b ≠ 0) (hz : b.natAbs < 2 ^ 9000) : W_share_of [.int a, .int b] c Q = Q (shT (Rat.divInt a b)) c := by
  have hg := gcd_pos' (a := a) hb
  have hgz := gcd_lt (a := a) hb hz
  have d1 : (Int.gcd a b : Int) ∣ a := Int.gcd_dvd_left a b
  have d2 : (Int.gcd a b : Int) ∣ b := Int.gcd_dvd_right a b
  have hb' : (b == 0) = false := by simpa using hb
  unfold W_share_of WB_share_of shT
  rw [div_num hb, div_den hb]
  by_cases hn : b < 0
  · simp! only [common_divisor_eq, hb', decide_eq_true hn, two_le, if_pos hn]
    rw [vFdiv_x (by omega) (by omega) (Int.neg_dvd.mpr d1), vFdiv_x (by omega) (by omega) (Int.neg_dvd.mpr d2)]
  · simp! only [common_divisor_eq, hb', decide_eq_false hn, two_le, if_neg hn]
    rw [vFdiv_x (by omega) (by omega) d1, vFdiv_x (by omega) (by omega) d2]
theorem _law_share_eq {a b : Int} {c : Nat} {Q : QT} (hb : b ≠ 0) (hz : b.natAbs < 2 ^ 9000) : W__law_share [.int a, .int b] c Q = Q (shT (Rat.divInt a b)) c := by
  have hg := gcd_pos' (a := a) hb
  have hgz := gcd_lt (a := a) hb hz
  have d1 : (Int.gcd a b : Int) ∣ a := Int.gcd_dvd_left a b
  have d2 : (Int.gcd a b : Int) ∣ b := Int.gcd_dvd_right a b
  have hb' : (b == 0) = false := by simpa using hb
  unfold W__law_share WB__law_share shT
  rw [div_num hb, div_den hb]
  by_cases hn : b < 0
  · simp! only [_law_common_eq, hb', decide_eq_true hn, two_le, if_pos hn, Int.zero_sub]
    rw [vFdiv_x (by omega) (by omega) (Int.neg_dvd.mpr d1), vFdiv_x (by omega) (by omega) (Int.neg_dvd.mpr d2)]
  · simp! only [_law_common_eq, hb', decide_eq_false hn, two_le, if_neg hn]
    rw [vFdiv_x (by omega) (by omega) d1, vFdiv_x (by omega) (by omega) d2]
theorem is_share_eq {x : T} (hx : x.repb = true) {c : Nat} {Q : QT} : W_is_share [x] c Q = Q (.bl (shareB x)) c := by
  unfold W_is_share WB_is_share
  simp! only [is_tuple_of_eq (T.repb.nopen hx)]
  cases q : x.tupB 2 2 with
  | false => simp! only [shareB_two q]
  | true =>
    obtain ⟨a, b, rfl⟩ := tupB_two q
    have ha := repb_tup hx a (by simp)
    have hb := repb_tup hx b (by simp)
    simp! only [is_whole_eq (T.repb.nopen ha), is_whole_eq (T.repb.nopen hb)]
    cases a with
    | int i =>
      cases b with
      | int j =>
        simp only [T.isInt, wBin_d, wB2_d, wB1_d, wVar_d, wK_d, wNil_d, wCons_d, wTup_d, wLst_d, wIf_d, wAnd2_d, wOr2_d, wOrT_d, wAndT_d, wNot1_d, wNeg_d, wChain_d, wB_d, wTru_d, wtNot_d, wtAnd_d, wtOr_d, wtTrue_d, woNone_d, woSome_d, wSl_d, wSlL_d, wRevA_d, wApp_d, wAppK_d, wIsi_d, wSeq_d, wR1_d, wR2_d, wEnum_d, wLC_d, wDict0_d, wgSet_d, wgNil_d, wgCons_d, wgSeq_t, wgSeq_l, wsNext_d, wsBrk_d, wsCont_d, wsSeq_d, wsIf_d, wsExpr_d, wsRet_d, wsSet_d, wsPar_d, wsPar3_d, wsAsg_d, wsAppend_d, wsExtend_d, wsReverse_d, wsFor_d, wsWhile_d, wFn_d, wFnN_d, wDraw_d, vSub_d, vLt_d, vLe_d, vGt_d, vGe_d, vMax2_d, vMin2_d, vMul_t, vMul_l, vAdd_d, vAdd_t, vAdd_l, vCat_d, vEq_i, vNe_i, vEq_s, vNe_s, vIx_t, vIx_l, tAt_0, tAt_1, tAt_2, vAbs_d, vLen_t, vLen_l, vTuple_l, vTuple_t, vList_l, vList_t, vInt_b, vInt_i, vNotB_d, vIsN_d, vNotN_d, vIx_sh0, vIx_sh1, vEq_sh, vNe_sh, EV.startT, List.map_cons, List.map_nil, List.length_cons, List.length_nil, List.replicate_succ, List.replicate_zero, List.nil_append, List.cons_append, List.append_nil, List.getElem?_cons_zero, List.getElem?_cons_succ, List.set_cons_zero, List.set_cons_succ, Nat.reduceAdd, Nat.reduceSub, Nat.zero_add, wipeT, mIntT, sel, List.filterMap_cons, List.filterMap_nil, Bool.false_eq_true, if_false, if_true, true_and, and_true, and_self, Bool.and_self, Bool.not_true, Bool.not_false, decide_true, decide_false, Option.getD_some, common_divisor_eq, shareB]
        by_cases h : 1 ≤ j
        · simp only [decide_eq_true h, Bool.true_and]
          congr 2
          by_cases h2 : Int.gcd i j = 1
          · rw [h2]; rfl
          · have h3 : ((Int.gcd i j : Int) == 1) = false := by rw [beq_eq_false_iff_ne]; omega
            have h4 : (Int.gcd i j == 1) = false := by rw [beq_eq_false_iff_ne]; exact h2
            rw [h3, h4]
        · simp only [decide_eq_false h, Bool.false_and]
      | _ => simp only [T.isInt, wBin_d, wB2_d, wB1_d, wVar_d, wK_d, wNil_d, wCons_d, wTup_d, wLst_d, wIf_d, wAnd2_d, wOr2_d, wOrT_d, wAndT_d, wNot1_d, wNeg_d, wChain_d, wB_d, wTru_d, wtNot_d, wtAnd_d, wtOr_d, wtTrue_d, woNone_d, woSome_d, wSl_d, wSlL_d, wRevA_d, wApp_d, wAppK_d, wIsi_d, wSeq_d, wR1_d, wR2_d, wEnum_d, wLC_d, wDict0_d, wgSet_d, wgNil_d, wgCons_d, wgSeq_t, wgSeq_l, wsNext_d, wsBrk_d, wsCont_d, wsSeq_d, wsIf_d, wsExpr_d, wsRet_d, wsSet_d, wsPar_d, wsPar3_d, wsAsg_d, wsAppend_d, wsExtend_d, wsReverse_d, wsFor_d, wsWhile_d, wFn_d, wFnN_d, wDraw_d, vSub_d, vLt_d, vLe_d, vGt_d, vGe_d, vMax2_d, vMin2_d, vMul_t, vMul_l, vAdd_d, vAdd_t, vAdd_l, vCat_d, vEq_i, vNe_i, vEq_s, vNe_s, vIx_t, vIx_l, tAt_0, tAt_1, tAt_2, vAbs_d, vLen_t, vLen_l, vTuple_l, vTuple_t, vList_l, vList_t, vInt_b, vInt_i, vNotB_d, vIsN_d, vNotN_d, vIx_sh0, vIx_sh1, vEq_sh, vNe_sh, EV.startT, List.map_cons, List.map_nil, List.length_cons, List.length_nil, List.replicate_succ, List.replicate_zero, List.nil_append, List.cons_append, List.append_nil, List.getElem?_cons_zero, List.getElem?_cons_succ, List.set_cons_zero, List.set_cons_succ, Nat.reduceAdd, Nat.reduceSub, Nat.zero_add, wipeT, mIntT, sel, List.filterMap_cons, List.filterMap_nil, Bool.false_eq_true, if_false, if_true, true_and, and_true, and_self, Bool.and_self, Bool.not_true, Bool.not_false, decide_true, decide_false, Option.getD_some, shareB]
    | _ => simp only [T.isInt, wBin_d, wB2_d, wB1_d, wVar_d, wK_d, wNil_d, wCons_d, wTup_d, wLst_d, wIf_d, wAnd2_d, wOr2_d, wOrT_d, wAndT_d, wNot1_d, wNeg_d, wChain_d, wB_d, wTru_d, wtNot_d, wtAnd_d, wtOr_d, wtTrue_d, woNone_d, woSome_d, wSl_d, wSlL_d, wRevA_d, wApp_d, wAppK_d, wIsi_d, wSeq_d, wR1_d, wR2_d, wEnum_d, wLC_d, wDict0_d, wgSet_d, wgNil_d, wgCons_d, wgSeq_t, wgSeq_l, wsNext_d, wsBrk_d, wsCont_d, wsSeq_d, wsIf_d, wsExpr_d, wsRet_d, wsSet_d, wsPar_d, wsPar3_d, wsAsg_d, wsAppend_d, wsExtend_d, wsReverse_d, wsFor_d, wsWhile_d, wFn_d, wFnN_d, wDraw_d, vSub_d, vLt_d, vLe_d, vGt_d, vGe_d, vMax2_d, vMin2_d, vMul_t, vMul_l, vAdd_d, vAdd_t, vAdd_l, vCat_d, vEq_i, vNe_i, vEq_s, vNe_s, vIx_t, vIx_l, tAt_0, tAt_1, tAt_2, vAbs_d, vLen_t, vLen_l, vTuple_l, vTuple_t, vList_l, vList_t, vInt_b, vInt_i, vNotB_d, vIsN_d, vNotN_d, vIx_sh0, vIx_sh1, vEq_sh, vNe_sh, EV.startT, List.map_cons, List.map_nil, List.length_cons, List.length_nil, List.replicate_succ, List.replicate_zero, List.nil_append, List.cons_append, List.append_nil, List.getElem?_cons_zero, List.getElem?_cons_succ, List.set_cons_zero, List.set_cons_succ, Nat.reduceAdd, Nat.reduceSub, Nat.zero_add, wipeT, mIntT, sel, List.filterMap_cons, List.filterMap_nil, Bool.false_eq_true, if_false, if_true, true_and, and_true, and_self, Bool.and_self, Bool.not_true, Bool.not_false, decide_true, decide_false, Option.getD_some, shareB]
end Mine
set_option Elab.async false
set_option linter.all false
set_option autoImplicit false
set_option maxRecDepth 100000
namespace Mine
open PySem PySem.Spec PyProof.Rows L2 EV
set_option maxHeartbeats 1000000
local macro_rules | `(tactic| simp! only [$xs,*]) => `(tactic| simp only [wBin_d, wB2_d, wB1_d, wVar_d, wK_d, wNil_d, wCons_d, wTup_d, wLst_d, wIf_d, wAnd2_d, wOr2_d, wOrT_d, wAndT_d, wNot1_d, wNeg_d, wChain_d, wB_d, wTru_d, wtNot_d, wtAnd_d, wtOr_d, wtTrue_d, woNone_d, woSome_d, wSl_d, wSlL_d, wRevA_d, wApp_d, wAppK_d, wIsi_d, wSeq_d, wR1_d, wR2_d, wEnum_d, wLC_d, wDict0_d, wgSet_d, wgNil_d, wgCons_d, wgSeq_t, wgSeq_l, wsNext_d, wsBrk_d, wsCont_d, wsSeq_d, wsIf_d, wsExpr_d, wsRet_d, wsSet_d, wsPar_d, wsPar3_d, wsAsg_d, wsAppend_d, wsExtend_d, wsReverse_d, wsFor_d, wsWhile_d, wFn_d, wFnN_d, wDraw_d, vSub_d, vLt_d, vLe_d, vGt_d, vGe_d, vMax2_d, vMin2_d, vMul_t, vMul_l, vAdd_d, vAdd_t, vAdd_l, vCat_d, vEq_i, vNe_i, vEq_s, vNe_s, vIx_t, vIx_l, tAt_0, tAt_1, tAt_2, vAbs_d, vLen_t, vLen_l, vTuple_l, vTuple_t, vList_l, vList_t, vInt_b, vInt_i, vNotB_d, vIsN_d, vNotN_d, vIx_sh0, vIx_sh1, vEq_sh, vNe_sh, EV.startT, List.map_cons, List.map_nil, List.length_cons, List.length_nil, List.replicate_succ, List.replicate_zero, List.nil_append, List.cons_append, List.append_nil, List.getElem?_cons_zero, List.getElem?_cons_succ, List.set_cons_zero, List.set_cons_succ, Nat.reduceAdd, Nat.reduceSub, Nat.zero_add, wipeT, mIntT, sel, List.filterMap_cons, List.filterMap_nil, Bool.false_eq_true, if_false, if_true, true_and, and_true, and_self, Bool.and_self, Bool.not_true, Bool.not_false, decide_true, decide_false, Option.getD_some, $xs,*])
local macro_rules | `(tactic| simp! only [$xs,*] $l:location) => `(tactic| simp only [wBin_d, wB2_d, wB1_d, wVar_d, wK_d, wNil_d, wCons_d, wTup_d, wLst_d, wIf_d, wAnd2_d, wOr2_d, wOrT_d, wAndT_d, wNot1_d, wNeg_d, wChain_d, wB_d, wTru_d, wtNot_d, wtAnd_d, wtOr_d, wtTrue_d, woNone_d, woSome_d, wSl_d, wSlL_d, wRevA_d, wApp_d, wAppK_d, wIsi_d, wSeq_d, wR1_d, wR2_d, wEnum_d, wLC_d, wDict0_d, wgSet_d, wgNil_d, wgCons_d, wgSeq_t, wgSeq_l, wsNext_d, wsBrk_d, wsCont_d, wsSeq_d, wsIf_d, wsExpr_d, wsRet_d, wsSet_d, wsPar_d, wsPar3_d, wsAsg_d, wsAppend_d, wsExtend_d, wsReverse_d, wsFor_d, wsWhile_d, wFn_d, wFnN_d, wDraw_d, vSub_d, vLt_d, vLe_d, vGt_d, vGe_d, vMax2_d, vMin2_d, vMul_t, vMul_l, vAdd_d, vAdd_t, vAdd_l, vCat_d, vEq_i, vNe_i, vEq_s, vNe_s, vIx_t, vIx_l, tAt_0, tAt_1, tAt_2, vAbs_d, vLen_t, vLen_l, vTuple_l, vTuple_t, vList_l, vList_t, vInt_b, vInt_i, vNotB_d, vIsN_d, vNotN_d, vIx_sh0, vIx_sh1, vEq_sh, vNe_sh, EV.startT, List.map_cons, List.map_nil, List.length_cons, List.length_nil, List.replicate_succ, List.replicate_zero, List.nil_append, List.cons_append, List.append_nil, List.getElem?_cons_zero, List.getElem?_cons_succ, List.set_cons_zero, List.set_cons_succ, Nat.reduceAdd, Nat.reduceSub, Nat.zero_add, wipeT, mIntT, sel, List.filterMap_cons, List.filterMap_nil, Bool.false_eq_true, if_false, if_true, true_and, and_true, and_self, Bool.and_self, Bool.not_true, Bool.not_false, decide_true, decide_false, Option.getD_some, $xs,*] $l:location)
local macro_rules | `(tactic| dsimp! only [$xs,*]) => `(tactic| simp only [wBin_d, wB2_d, wB1_d, wVar_d, wK_d, wNil_d, wCons_d, wTup_d, wLst_d, wIf_d, wAnd2_d, wOr2_d, wOrT_d, wAndT_d, wNot1_d, wNeg_d, wChain_d, wB_d, wTru_d, wtNot_d, wtAnd_d, wtOr_d, wtTrue_d, woNone_d, woSome_d, wSl_d, wSlL_d, wRevA_d, wApp_d, wAppK_d, wIsi_d, wSeq_d, wR1_d, wR2_d, wEnum_d, wLC_d, wDict0_d, wgSet_d, wgNil_d, wgCons_d, wgSeq_t, wgSeq_l, wsNext_d, wsBrk_d, wsCont_d, wsIf_d, wsExpr_d, wsRet_d, wsSet_d, wsPar_d, wsPar3_d, wsAsg_d, wsAppend_d, wsExtend_d, wsReverse_d, wsFor_d, wsWhile_d, wFn_d, wFnN_d, wDraw_d, vSub_d, vLt_d, vLe_d, vGt_d, vGe_d, vMax2_d, vMin2_d, vMul_t, vMul_l, vAdd_d, vAdd_t, vAdd_l, vCat_d, vEq_i, vNe_i, vEq_s, vNe_s, vIx_t, vIx_l, tAt_0, tAt_1, tAt_2, vAbs_d, vLen_t, vLen_l, vTuple_l, vTuple_t, vList_l, vList_t, vInt_b, vInt_i, vNotB_d, vIsN_d, vNotN_d, vIx_sh0, vIx_sh1, vEq_sh, vNe_sh, EV.startT, List.map_cons, List.map_nil, List.length_cons, List.length_nil, List.replicate_succ, List.replicate_zero, List.nil_append, List.cons_append, List.append_nil, List.getElem?_cons_zero, List.getElem?_cons_succ, List.set_cons_zero, List.set_cons_succ, Nat.reduceAdd, Nat.reduceSub, Nat.zero_add, wipeT, mIntT, sel, List.filterMap_cons, List.filterMap_nil, Bool.false_eq_true, if_false, if_true, true_and, and_true, and_self, Bool.and_self, Bool.not_true, Bool.not_false, decide_true, decide_false, Option.getD_some, $xs,*])
local macro_rules | `(tactic| dsimp! only [$xs,*] $l:location) => `(tactic| simp only [wBin_d, wB2_d, wB1_d, wVar_d, wK_d, wNil_d, wCons_d, wTup_d, wLst_d, wIf_d, wAnd2_d, wOr2_d, wOrT_d, wAndT_d, wNot1_d, wNeg_d, wChain_d, wB_d, wTru_d, wtNot_d, wtAnd_d, wtOr_d, wtTrue_d, woNone_d, woSome_d, wSl_d, wSlL_d, wRevA_d, wApp_d, wAppK_d, wIsi_d, wSeq_d, wR1_d, wR2_d, wEnum_d, wLC_d, wDict0_d, wgSet_d, wgNil_d, wgCons_d, wgSeq_t, wgSeq_l, wsNext_d, wsBrk_d, wsCont_d, wsIf_d, wsExpr_d, wsRet_d, wsSet_d, wsPar_d, wsPar3_d, wsAsg_d, wsAppend_d, wsExtend_d, wsReverse_d, wsFor_d, wsWhile_d, wFn_d, wFnN_d, wDraw_d, vSub_d, vLt_d, vLe_d, vGt_d, vGe_d, vMax2_d, vMin2_d, vMul_t, vMul_l, vAdd_d, vAdd_t, vAdd_l, vCat_d, vEq_i, vNe_i, vEq_s, vNe_s, vIx_t, vIx_l, tAt_0, tAt_1, tAt_2, vAbs_d, vLen_t, vLen_l, vTuple_l, vTuple_t, vList_l, vList_t, vInt_b, vInt_i, vNotB_d, vIsN_d, vNotN_d, vIx_sh0, vIx_sh1, vEq_sh, vNe_sh, EV.startT, List.map_cons, List.map_nil, List.length_cons, List.length_nil, List.replicate_succ, List.replicate_zero, List.nil_append, List.cons_append, List.append_nil, List.getElem?_cons_zero, List.getElem?_cons_succ, List.set_cons_zero, List.set_cons_succ, Nat.reduceAdd, Nat.reduceSub, Nat.zero_add, wipeT, mIntT, sel, List.filterMap_cons, List.filterMap_nil, Bool.false_eq_true, if_false, if_true, true_and, and_true, and_self, Bool.and_self, Bool.not_true, Bool.not_false, decide_true, decide_false, Option.getD_some, $xs,*] $l:location)
theorem oAddA_i {i j : Int} {h : AH} : oAddA (.int i) (.int j) h = .ok (.int (i + j)) h := id rfl
theorem oMulA_l {i j : Int} {h : AH} (h1 : -18446744073709551616 < i) (h2 : i < 18446744073709551616) : oMulA (.int i) (.int j) h = .ok (.int (i * j)) h := by
  unfold oMulA orOp; rw [oMul_l h1 h2]
theorem oMulA_r {i j : Int} {h : AH} (h1 : -18446744073709551616 < j) (h2 : j < 18446744073709551616) : oMulA (.int i) (.int j) h = .ok (.int (i * j)) h := by
  unfold oMulA orOp; rw [oMul_r h1 h2]
theorem bInt_b {b : Bool} {h : AH} : bInt [.bl b] h = .ok (.int (if b then 1 else 0)) h := id rfl
theorem draw_ok : DrawOk F__law_draw := fun h p c cs a l n P hn hn2 ha => by
  have main : ∃ r a' l' g, B__law_draw (startD 6 [.ref p, .int n]) h = .ok (.ret (.int r)) (h.set p (penO c a' l') ++ g) ∧ 0 ≤ r ∧ r < n ∧ 0 ≤ a' ∧ a' ≤ a + 1 ∧ 0 ≤ l' := by
    have s0 : startD 6 [.ref p, .int n] = [some (.ref p), some (.int n), none, none, none, none] := rfl
    rw [s0]
    obtain ⟨i0, i1, i2⟩ := pen_ix P.pen
    have a0 := P.a0
    have l0 := P.l0
    unfold B__law_draw
    by_cases hl : 0 < l
    · rw [seq_r (v := .int (l % n)) (h1 := h.set p (penO c a (l / n))) (by simp (disch := omega) only [sSeq_d, sSet_d, eBin_d, eK_d, eVar_d, bind_ok, List.getElem?_cons_zero, List.getElem?_cons_succ, List.set_cons_zero, List.set_cons_succ, sIf_d, tB_d, oGt_i, oLt_i, oGe_i, oLe_i, oNe_i, oEq_i, Bool.false_eq_true, if_false, if_true, sPut_d, sRet_d, sNext_d, oAddA_i, oSub_i, eApp_d, aCons_d, aNil_d, bAbs_i, bInt_b, sPar_d, eTup_d, eNeg_d, List.length_cons, List.length_nil, tAnd2_d, i2, decide_eq_true hl, oMod_p, oFdiv_p, (pen_st P.pen _).2])]
      exact ⟨_, a, l / n, [], by rw [List.append_nil], Int.emod_nonneg _ (by omega), Int.emod_lt_of_pos _ hn, a0, by omega, Int.ediv_nonneg l0 (by omega)⟩
    · have l00 : l = 0 := by omega
      subst l00
      rw [seq_n (if_fn (h1 := h) (by simp only [sSeq_d, sSet_d, eBin_d, eK_d, eVar_d, bind_ok, List.getElem?_cons_zero, List.getElem?_cons_succ, List.set_cons_zero, List.set_cons_succ, sIf_d, tB_d, oGt_i, oLt_i, oGe_i, oLe_i, oNe_i, oEq_i, Bool.false_eq_true, if_false, if_true, sPut_d, sRet_d, sNext_d, oAddA_i, oSub_i, eApp_d, aCons_d, aNil_d, bAbs_i, bInt_b, sPar_d, eTup_d, eNeg_d, List.length_cons, List.length_nil, tAnd2_d, i2]; rfl))]
      rw [seq_n (set_n (h1 := h) (x := .int a) (by simp only [sSeq_d, sSet_d, eBin_d, eK_d, eVar_d, bind_ok, List.getElem?_cons_zero, List.getElem?_cons_succ, List.set_cons_zero, List.set_cons_succ, sIf_d, tB_d, oGt_i, oLt_i, oGe_i, oLe_i, oNe_i, oEq_i, Bool.false_eq_true, if_false, if_true, sPut_d, sRet_d, sNext_d, oAddA_i, oSub_i, eApp_d, aCons_d, aNil_d, bAbs_i, bInt_b, sPar_d, eTup_d, eNeg_d, List.length_cons, List.length_nil, tAnd2_d, i1]))]
      simp only [List.set_cons_zero, List.set_cons_succ]
      rw [seq_n (σ1 := [some (.ref p), some (.int n), some (.int (a)), none, none, none]) (h1 := h.set p (penO c (a + 1) 0)) (by simp only [sSeq_d, sSet_d, eBin_d, eK_d, eVar_d, bind_ok, List.getElem?_cons_zero, List.getElem?_cons_succ, List.set_cons_zero, List.set_cons_succ, sIf_d, tB_d, oGt_i, oLt_i, oGe_i, oLe_i, oNe_i, oEq_i, Bool.false_eq_true, if_false, if_true, sPut_d, sRet_d, sNext_d, oAddA_i, oSub_i, eApp_d, aCons_d, aNil_d, bAbs_i, bInt_b, sPar_d, eTup_d, eNeg_d, List.length_cons, List.length_nil, tAnd2_d, (pen_st P.pen _).1])]
      have P1 := P.set (a' := a + 1) (l' := 0) (by omega) (by omega)
      generalize hk : h.set p (penO c (a + 1) 0) = k at P1
      have q0 : 0 ≤ a * a := Int.mul_nonneg a0 a0
      have q00 : a * a ≤ 1000000 * a := Int.mul_le_mul_of_nonneg_right (by omega) a0
      rw [seq_n (set_n (h1 := k) (x := .int (90011 * a + 97)) (by simp (disch := omega) only [sSeq_d, sSet_d, eBin_d, eK_d, eVar_d, bind_ok, List.getElem?_cons_zero, List.getElem?_cons_succ, List.set_cons_zero, List.set_cons_succ, sIf_d, tB_d, oGt_i, oLt_i, oGe_i, oLe_i, oNe_i, oEq_i, Bool.false_eq_true, if_false, if_true, sPut_d, sRet_d, sNext_d, oAddA_i, oSub_i, eApp_d, aCons_d, aNil_d, bAbs_i, bInt_b, sPar_d, eTup_d, eNeg_d, List.length_cons, List.length_nil, tAnd2_d, oMulA_l]))]
      simp only [List.set_cons_zero, List.set_cons_succ]
      have nil0 : (0 : Nat) ≤ sizeLine := Nat.zero_le _
      have P2 := P1.app [.lst []]
      
      obtain ⟨j0, j1, j2⟩ := pen_ix P1.pen
      obtain ⟨k0, k1, k2⟩ := pen_ix P2.pen
      have en : (k ++ [AO.lst []])[k.length]? = some (.lst []) := by rw [List.getElem?_append_right (Nat.le_refl _)]; simp
      have cne := ne_nil P2.cells en
      -- the cell
      obtain ⟨v, hv⟩ : ∃ v : Int, (sIf (EV.tB (eBin oNe (eBin oIx (eVar 0) (eK (.int 0))) (eLst aNil))) (sSet 3 (eBin oIx (eBin oIx (eVar 0) (eK (.int 0))) (eBin oMod (eVar 2) (eApp bLen (aCons (eBin oIx (eVar 0) (eK (.int 0))) aNil))))) sNext)
          [some (.ref p), some (.int n), some (.int (a)), some (.int (90011 * a + 97)), none, none] k = .ok (.next [some (.ref p), some (.int n), some (.int (a)), some (.int (v)), none, none]) (k ++ [.lst []]) := by
        by_cases hc : cs = []
        · refine ⟨90011 * a + 97, ?_⟩
          rw [if_fn (h1 := k ++ [.lst []]) (by simp only [sSeq_d, sSet_d, eBin_d, eK_d, eVar_d, bind_ok, List.getElem?_cons_zero, List.getElem?_cons_succ, List.set_cons_zero, List.set_cons_succ, sIf_d, tB_d, oGt_i, oLt_i, oGe_i, oLe_i, oNe_i, oEq_i, Bool.false_eq_true, if_false, if_true, sPut_d, sRet_d, sNext_d, oAddA_i, oSub_i, eApp_d, aCons_d, aNil_d, bAbs_i, bInt_b, sPar_d, eTup_d, eNeg_d, List.length_cons, List.length_nil, tAnd2_d, j0, eLst_d, nil0, newL, cne, decide_eq_true hc, Bool.not_true])]
        · have hcl : 0 < (cs.length : Int) := by
            have : cs.length ≠ 0 := fun z => hc (List.length_eq_zero_iff.mp z)
            omega
          have hm0 := Int.emod_nonneg a (show (cs.length : Int) ≠ 0 by omega)
          have hm1 := Int.emod_lt_of_pos a hcl
          obtain ⟨v, hv⟩ : ∃ v, cs[(a % (cs.length : Int)).toNat]? = some v := ⟨cs[(a % (cs.length : Int)).toNat]'(by omega), List.getElem?_eq_getElem (by omega)⟩
          have hv' : (cs.map D.int)[(a % (cs.length : Int)).toNat]? = some (.int v) := by rw [List.getElem?_map, hv]; rfl
          refine ⟨v, ?_⟩
          rw [if_t (h1 := k ++ [.lst []]) (by simp only [sSeq_d, sSet_d, eBin_d, eK_d, eVar_d, bind_ok, List.getElem?_cons_zero, List.getElem?_cons_succ, List.set_cons_zero, List.set_cons_succ, sIf_d, tB_d, oGt_i, oLt_i, oGe_i, oLe_i, oNe_i, oEq_i, Bool.false_eq_true, if_false, if_true, sPut_d, sRet_d, sNext_d, oAddA_i, oSub_i, eApp_d, aCons_d, aNil_d, bAbs_i, bInt_b, sPar_d, eTup_d, eNeg_d, List.length_cons, List.length_nil, tAnd2_d, j0, eLst_d, nil0, newL, cne, decide_eq_false hc, Bool.not_false])]
          simp (disch := omega) only [sSeq_d, sSet_d, eBin_d, eK_d, eVar_d, bind_ok, List.getElem?_cons_zero, List.getElem?_cons_succ, List.set_cons_zero, List.set_cons_succ, sIf_d, tB_d, oGt_i, oLt_i, oGe_i, oLe_i, oNe_i, oEq_i, Bool.false_eq_true, if_false, if_true, sPut_d, sRet_d, sNext_d, oAddA_i, oSub_i, eApp_d, aCons_d, aNil_d, bAbs_i, bInt_b, sPar_d, eTup_d, eNeg_d, List.length_cons, List.length_nil, tAnd2_d, k0, bLen_lst P2.cells, oMod_p, List.length_map, oIx_ref P2.cells, seqAt_n hm0 hv']
      rw [seq_n hv]
      generalize hk2 : k ++ [.lst []] = m at P2 k0 k1 k2
      have ten18 : (10 : Int) ^ Int.toNat 18 = 1000000000000000000 := by decide
      have m0 : m = h.set p (penO c (a + 1) 0) ++ [.lst []] := by rw [← hk2, ← hk]
      by_cases hb : a < (cs.length : Int) ∧ (1000000000000000000 : Int) ≤ (if v < 0 then -v else v)
      · rw [seq_r (v := .int ((if v < 0 then -v else v) % n)) (h1 := m.set p (penO c (a + 1) ((if v < 0 then -v else v) / n))) (by simp (disch := omega) only [sSeq_d, sSet_d, eBin_d, eK_d, eVar_d, bind_ok, List.getElem?_cons_zero, List.getElem?_cons_succ, List.set_cons_zero, List.set_cons_succ, sIf_d, tB_d, oGt_i, oLt_i, oGe_i, oLe_i, oNe_i, oEq_i, Bool.false_eq_true, if_false, if_true, sPut_d, sRet_d, sNext_d, oAddA_i, oSub_i, eApp_d, aCons_d, aNil_d, bAbs_i, bInt_b, sPar_d, eTup_d, eNeg_d, List.length_cons, List.length_nil, tAnd2_d, k0, bLen_lst P2.cells, List.length_map, decide_eq_true hb.1, decide_eq_true hb.2, oPow_s, ten18, oFdiv_p, oMod_p, (pen_st P2.pen _).2])]
        refine ⟨(if v < 0 then -v else v) % n, a + 1, (if v < 0 then -v else v) / n, [.lst []], ?_, Int.emod_nonneg _ (by omega), Int.emod_lt_of_pos _ hn, by omega, by omega, Int.ediv_nonneg (by split <;> omega) (by omega)⟩
        rw [m0, List.set_append_left _ _ (by simpa using P.pl), List.set_set]
      · rw [seq_n (if_fn (h1 := m) (by
          by_cases h1 : a < (cs.length : Int)
          · have h2 : ¬ (1000000000000000000 : Int) ≤ (if v < 0 then -v else v) := fun z => hb ⟨h1, z⟩
            simp (disch := omega) only [sSeq_d, sSet_d, eBin_d, eK_d, eVar_d, bind_ok, List.getElem?_cons_zero, List.getElem?_cons_succ, List.set_cons_zero, List.set_cons_succ, sIf_d, tB_d, oGt_i, oLt_i, oGe_i, oLe_i, oNe_i, oEq_i, Bool.false_eq_true, if_false, if_true, sPut_d, sRet_d, sNext_d, oAddA_i, oSub_i, eApp_d, aCons_d, aNil_d, bAbs_i, bInt_b, sPar_d, eTup_d, eNeg_d, List.length_cons, List.length_nil, tAnd2_d, k0, bLen_lst P2.cells, List.length_map, decide_eq_true h1, decide_eq_false h2, oPow_s, ten18]
          · simp (disch := omega) only [sSeq_d, sSet_d, eBin_d, eK_d, eVar_d, bind_ok, List.getElem?_cons_zero, List.getElem?_cons_succ, List.set_cons_zero, List.set_cons_succ, sIf_d, tB_d, oGt_i, oLt_i, oGe_i, oLe_i, oNe_i, oEq_i, Bool.false_eq_true, if_false, if_true, sPut_d, sRet_d, sNext_d, oAddA_i, oSub_i, eApp_d, aCons_d, aNil_d, bAbs_i, bInt_b, sPar_d, eTup_d, eNeg_d, List.length_cons, List.length_nil, tAnd2_d, k0, bLen_lst P2.cells, List.length_map, decide_eq_false h1]))]
        have m1 := Int.emod_nonneg v (show (2147483563 : Int) ≠ 0 by decide)
        have m2 := Int.emod_lt_of_pos v (show (0 : Int) < 2147483563 by decide)
        have q1 : 0 ≤ 60013 * a * a := Int.mul_nonneg (by omega) a0
        have q2 : 60013 * a * a ≤ 60013000000 * a := Int.mul_le_mul_of_nonneg_right (by omega) a0
        rw [seq_n (set_n (h1 := m) (x := .int ((v % 2147483563 + 60013 * a * a + 50021 * a + 53) ^ Int.toNat 3 % 2147483647)) (by simp (disch := omega) only [sSeq_d, sSet_d, eBin_d, eK_d, eVar_d, bind_ok, List.getElem?_cons_zero, List.getElem?_cons_succ, List.set_cons_zero, List.set_cons_succ, sIf_d, tB_d, oGt_i, oLt_i, oGe_i, oLe_i, oNe_i, oEq_i, Bool.false_eq_true, if_false, if_true, sPut_d, sRet_d, sNext_d, oAddA_i, oSub_i, eApp_d, aCons_d, aNil_d, bAbs_i, bInt_b, sPar_d, eTup_d, eNeg_d, List.length_cons, List.length_nil, tAnd2_d, oMod_p, oMulA_l, oMulA_r, oPow_s]))]
        simp only [List.set_cons_zero, List.set_cons_succ]
        generalize hs : (v % 2147483563 + 60013 * a * a + 50021 * a + 53) ^ Int.toNat 3 % 2147483647 = s
        have s1 : 0 ≤ s := by rw [← hs]; exact Int.emod_nonneg _ (by decide)
        have s2 : s < 2147483647 := by rw [← hs]; exact Int.emod_lt_of_pos _ (by decide)
        have q3 : 0 ≤ s * (11 * a + 6) := Int.mul_nonneg s1 (by omega)
        have q4 : s * (11 * a + 6) ≤ 2147483647 * (11 * a + 6) := Int.mul_le_mul_of_nonneg_right (by omega) (by omega)
        rw [seq_n (set_n (h1 := m) (x := .int ((s * (11 * a + 6) + 70001) ^ Int.toNat 3 % 2147483587)) (by simp (disch := omega) only [sSeq_d, sSet_d, eBin_d, eK_d, eVar_d, bind_ok, List.getElem?_cons_zero, List.getElem?_cons_succ, List.set_cons_zero, List.set_cons_succ, sIf_d, tB_d, oGt_i, oLt_i, oGe_i, oLe_i, oNe_i, oEq_i, Bool.false_eq_true, if_false, if_true, sPut_d, sRet_d, sNext_d, oAddA_i, oSub_i, eApp_d, aCons_d, aNil_d, bAbs_i, bInt_b, sPar_d, eTup_d, eNeg_d, List.length_cons, List.length_nil, tAnd2_d, oMod_p, oMulA_l, oMulA_r, oPow_s]))]
        simp only [List.set_cons_zero, List.set_cons_succ]
        rw [ret_n (h1 := m) (x := .int ((s * (11 * a + 6) + 70001) ^ Int.toNat 3 % 2147483587 / 32 % n)) (by simp (disch := omega) only [sSeq_d, sSet_d, eBin_d, eK_d, eVar_d, bind_ok, List.getElem?_cons_zero, List.getElem?_cons_succ, List.set_cons_zero, List.set_cons_succ, sIf_d, tB_d, oGt_i, oLt_i, oGe_i, oLe_i, oNe_i, oEq_i, Bool.false_eq_true, if_false, if_true, sPut_d, sRet_d, sNext_d, oAddA_i, oSub_i, eApp_d, aCons_d, aNil_d, bAbs_i, bInt_b, sPar_d, eTup_d, eNeg_d, List.length_cons, List.length_nil, tAnd2_d, oMod_p, oFdiv_p, oMulA_l, oMulA_r])]
        exact ⟨_, a + 1, 0, [.lst []], by rw [m0], Int.emod_nonneg _ (by omega), Int.emod_lt_of_pos _ hn, by omega, by omega, by omega⟩
  obtain ⟨r, a', l', g, e, rest⟩ := main
  refine ⟨r, a', l', ?_, rest⟩
  unfold F__law_draw
  rw [mkFn_ret (np := 2) rfl e, P.cut _ _ _ _ rfl]
end Mine
set_option Elab.async false
set_option linter.all false
set_option autoImplicit false
set_option maxRecDepth 100000
namespace Mine
open PySem PySem.Spec PyProof.Rows L2 EV
set_option maxHeartbeats 1000000
local macro_rules | `(tactic| simp! only [$xs,*]) => `(tactic| simp only [wBin_d, wB2_d, wB1_d, wVar_d, wK_d, wNil_d, wCons_d, wTup_d, wLst_d, wIf_d, wAnd2_d, wOr2_d, wOrT_d, wAndT_d, wNot1_d, wNeg_d, wChain_d, wB_d, wTru_d, wtNot_d, wtAnd_d, wtOr_d, wtTrue_d, woNone_d, woSome_d, wSl_d, wSlL_d, wRevA_d, wApp_d, wAppK_d, wIsi_d, wSeq_d, wR1_d, wR2_d, wEnum_d, wLC_d, wDict0_d, wgSet_d, wgNil_d, wgCons_d, wgSeq_t, wgSeq_l, wsNext_d, wsBrk_d, wsCont_d, wsSeq_d, wsIf_d, wsExpr_d, wsRet_d, wsSet_d, wsPar_d, wsPar3_d, wsAsg_d, wsAppend_d, wsExtend_d, wsReverse_d, wsFor_d, wsWhile_d, wFn_d, wFnN_d, wDraw_d, vSub_d, vLt_d, vLe_d, vGt_d, vGe_d, vMax2_d, vMin2_d, vMul_t, vMul_l, vAdd_d, vAdd_t, vAdd_l, vCat_d, vEq_i, vNe_i, vEq_s, vNe_s, vIx_t, vIx_l, tAt_0, tAt_1, tAt_2, vAbs_d, vLen_t, vLen_l, vTuple_l, vTuple_t, vList_l, vList_t, vInt_b, vInt_i, vNotB_d, vIsN_d, vNotN_d, vIx_sh0, vIx_sh1, vEq_sh, vNe_sh, EV.startT, List.map_cons, List.map_nil, List.length_cons, List.length_nil, List.replicate_succ, List.replicate_zero, List.nil_append, List.cons_append, List.append_nil, List.getElem?_cons_zero, List.getElem?_cons_succ, List.set_cons_zero, List.set_cons_succ, Nat.reduceAdd, Nat.reduceSub, Nat.zero_add, wipeT, mIntT, sel, List.filterMap_cons, List.filterMap_nil, Bool.false_eq_true, if_false, if_true, true_and, and_true, and_self, Bool.and_self, Bool.not_true, Bool.not_false, decide_true, decide_false, Option.getD_some, $xs,*])
local macro_rules | `(tactic| simp! only [$xs,*] $l:location) => `(tactic| simp only [wBin_d, wB2_d, wB1_d, wVar_d, wK_d, wNil_d, wCons_d, wTup_d, wLst_d, wIf_d, wAnd2_d, wOr2_d, wOrT_d, wAndT_d, wNot1_d, wNeg_d, wChain_d, wB_d, wTru_d, wtNot_d, wtAnd_d, wtOr_d, wtTrue_d, woNone_d, woSome_d, wSl_d, wSlL_d, wRevA_d, wApp_d, wAppK_d, wIsi_d, wSeq_d, wR1_d, wR2_d, wEnum_d, wLC_d, wDict0_d, wgSet_d, wgNil_d, wgCons_d, wgSeq_t, wgSeq_l, wsNext_d, wsBrk_d, wsCont_d, wsSeq_d, wsIf_d, wsExpr_d, wsRet_d, wsSet_d, wsPar_d, wsPar3_d, wsAsg_d, wsAppend_d, wsExtend_d, wsReverse_d, wsFor_d, wsWhile_d, wFn_d, wFnN_d, wDraw_d, vSub_d, vLt_d, vLe_d, vGt_d, vGe_d, vMax2_d, vMin2_d, vMul_t, vMul_l, vAdd_d, vAdd_t, vAdd_l, vCat_d, vEq_i, vNe_i, vEq_s, vNe_s, vIx_t, vIx_l, tAt_0, tAt_1, tAt_2, vAbs_d, vLen_t, vLen_l, vTuple_l, vTuple_t, vList_l, vList_t, vInt_b, vInt_i, vNotB_d, vIsN_d, vNotN_d, vIx_sh0, vIx_sh1, vEq_sh, vNe_sh, EV.startT, List.map_cons, List.map_nil, List.length_cons, List.length_nil, List.replicate_succ, List.replicate_zero, List.nil_append, List.cons_append, List.append_nil, List.getElem?_cons_zero, List.getElem?_cons_succ, List.set_cons_zero, List.set_cons_succ, Nat.reduceAdd, Nat.reduceSub, Nat.zero_add, wipeT, mIntT, sel, List.filterMap_cons, List.filterMap_nil, Bool.false_eq_true, if_false, if_true, true_and, and_true, and_self, Bool.and_self, Bool.not_true, Bool.not_false, decide_true, decide_false, Option.getD_some, $xs,*] $l:location)
local macro_rules | `(tactic| dsimp! only [$xs,*]) => `(tactic| simp only [wBin_d, wB2_d, wB1_d, wVar_d, wK_d, wNil_d, wCons_d, wTup_d, wLst_d, wIf_d, wAnd2_d, wOr2_d, wOrT_d, wAndT_d, wNot1_d, wNeg_d, wChain_d, wB_d, wTru_d, wtNot_d, wtAnd_d, wtOr_d, wtTrue_d, woNone_d, woSome_d, wSl_d, wSlL_d, wRevA_d, wApp_d, wAppK_d, wIsi_d, wSeq_d, wR1_d, wR2_d, wEnum_d, wLC_d, wDict0_d, wgSet_d, wgNil_d, wgCons_d, wgSeq_t, wgSeq_l, wsNext_d, wsBrk_d, wsCont_d, wsIf_d, wsExpr_d, wsRet_d, wsSet_d, wsPar_d, wsPar3_d, wsAsg_d, wsAppend_d, wsExtend_d, wsReverse_d, wsFor_d, wsWhile_d, wFn_d, wFnN_d, wDraw_d, vSub_d, vLt_d, vLe_d, vGt_d, vGe_d, vMax2_d, vMin2_d, vMul_t, vMul_l, vAdd_d, vAdd_t, vAdd_l, vCat_d, vEq_i, vNe_i, vEq_s, vNe_s, vIx_t, vIx_l, tAt_0, tAt_1, tAt_2, vAbs_d, vLen_t, vLen_l, vTuple_l, vTuple_t, vList_l, vList_t, vInt_b, vInt_i, vNotB_d, vIsN_d, vNotN_d, vIx_sh0, vIx_sh1, vEq_sh, vNe_sh, EV.startT, List.map_cons, List.map_nil, List.length_cons, List.length_nil, List.replicate_succ, List.replicate_zero, List.nil_append, List.cons_append, List.append_nil, List.getElem?_cons_zero, List.getElem?_cons_succ, List.set_cons_zero, List.set_cons_succ, Nat.reduceAdd, Nat.reduceSub, Nat.zero_add, wipeT, mIntT, sel, List.filterMap_cons, List.filterMap_nil, Bool.false_eq_true, if_false, if_true, true_and, and_true, and_self, Bool.and_self, Bool.not_true, Bool.not_false, decide_true, decide_false, Option.getD_some, $xs,*])
local macro_rules | `(tactic| dsimp! only [$xs,*] $l:location) => `(tactic| simp only [wBin_d, wB2_d, wB1_d, wVar_d, wK_d, wNil_d, wCons_d, wTup_d, wLst_d, wIf_d, wAnd2_d, wOr2_d, wOrT_d, wAndT_d, wNot1_d, wNeg_d, wChain_d, wB_d, wTru_d, wtNot_d, wtAnd_d, wtOr_d, wtTrue_d, woNone_d, woSome_d, wSl_d, wSlL_d, wRevA_d, wApp_d, wAppK_d, wIsi_d, wSeq_d, wR1_d, wR2_d, wEnum_d, wLC_d, wDict0_d, wgSet_d, wgNil_d, wgCons_d, wgSeq_t, wgSeq_l, wsNext_d, wsBrk_d, wsCont_d, wsIf_d, wsExpr_d, wsRet_d, wsSet_d, wsPar_d, wsPar3_d, wsAsg_d, wsAppend_d, wsExtend_d, wsReverse_d, wsFor_d, wsWhile_d, wFn_d, wFnN_d, wDraw_d, vSub_d, vLt_d, vLe_d, vGt_d, vGe_d, vMax2_d, vMin2_d, vMul_t, vMul_l, vAdd_d, vAdd_t, vAdd_l, vCat_d, vEq_i, vNe_i, vEq_s, vNe_s, vIx_t, vIx_l, tAt_0, tAt_1, tAt_2, vAbs_d, vLen_t, vLen_l, vTuple_l, vTuple_t, vList_l, vList_t, vInt_b, vInt_i, vNotB_d, vIsN_d, vNotN_d, vIx_sh0, vIx_sh1, vEq_sh, vNe_sh, EV.startT, List.map_cons, List.map_nil, List.length_cons, List.length_nil, List.replicate_succ, List.replicate_zero, List.nil_append, List.cons_append, List.append_nil, List.getElem?_cons_zero, List.getElem?_cons_succ, List.set_cons_zero, List.set_cons_succ, Nat.reduceAdd, Nat.reduceSub, Nat.zero_add, wipeT, mIntT, sel, List.filterMap_cons, List.filterMap_nil, Bool.false_eq_true, if_false, if_true, true_and, and_true, and_self, Bool.and_self, Bool.not_true, Bool.not_false, decide_true, decide_false, Option.getD_some, $xs,*] $l:location)
theorem ten6 : (10 : Int) ^ Int.toNat 6 = 1000000 := by decide
theorem ten5 : (10 : Int) ^ Int.toNat 5 = 100000 := by decide
theorem ten12 : (10 : Int) ^ Int.toNat 12 = 1000000000000 := by decide
theorem eight : (8 ≤ sizeLine) := by rw [sizeLine_eq]; decide
theorem number_ok {c : Nat} {Q : QT} (hc : c < 800000) (h : ∀ (z : Int) c', z.natAbs ≤ 1000000000000 → c ≤ c' → c' ≤ c + 4 → Q (.int z) c') : W__law_number [.pen] c Q := by
  have p6 : ∀ {P : T → Prop}, vPow (.int 10) (.int 6) P = P (.int 1000000) := fun {P} => by rw [vPow_s (by decide) (by decide) (by decide), ten6]
  have p12 : ∀ {P : T → Prop}, vPow (.int 10) (.int 12) P = P (.int 1000000000000) := fun {P} => by rw [vPow_s (by decide) (by decide) (by decide), ten12]
  have mr : ∀ {i : Int} {P : T → Prop}, vMulA (.int i) (.int 1000000) P = P (.int (i * 1000000)) := fun {i P} => vMul_c (.r (by decide) (by decide))
  unfold W__law_number WB__law_number
  simp! only [wIsX_e, wMk0_e, wMk_e, wAppD_e, p6, p12, mr, eight]
  refine ⟨⟨by omega, by omega, by omega⟩, fun r0 a0 b0 => ⟨⟨by omega, by omega, by omega⟩, fun r1 a1 b1 => ⟨⟨by omega, by omega, by omega⟩, fun r2 a2 b2 => ⟨⟨by omega, by omega, by omega⟩, fun r3 a3 b3 => ?_⟩⟩⟩⟩
  obtain ⟨t, et, ht⟩ := pick_int (L := [T.int 0, .int 1, .int (-1), .int (r2 - 12), .int (r0 * 1000000 + r1), .int (0 - (r0 * 1000000 + r1)), .int 360, .int (1000000000000 - 1)]) (P := fun i => i.natAbs ≤ 1000000000000) (by
    intro x hx
    simp only [List.mem_cons, List.not_mem_nil, or_false] at hx
    rcases hx with rfl | rfl | rfl | rfl | rfl | rfl | rfl | rfl <;> exact ⟨_, rfl, by omega⟩) a3 (by show r3 < 8; omega)
  rw [tAt_n a3 et]
  exact h _ _ ht (by omega) (by omega)
theorem _law_is_share_eq {x : T} (hx : x.repb = true) {c : Nat} {Q : QT} : W__law_is_share [x] c Q = Q (.bl (shareB x)) c := by
  unfold W__law_is_share WB__law_is_share
  obtain ⟨y, e⟩ := T.ty_of (T.repb.nopen hx)
  cases x with
  | tup xs =>
    cases e
    by_cases l : xs.length = 2
    · match xs, l with
      | [a, b], l =>
        have ha := repb_tup hx a (by simp)
        have hb := repb_tup hx b (by simp)
        obtain ⟨ya, ea⟩ := T.ty_of (T.repb.nopen ha)
        obtain ⟨yb, eb⟩ := T.ty_of (T.repb.nopen hb)
        have z2 : (((2 : Nat) : Int) == 2) = true := by decide
        have ti : decide (Ty.int = Ty.int) = true := rfl
        have td0 : decide (Ty.int = Ty.bl) = false := rfl
        have td1 : decide (Ty.tup = Ty.tup) = true := rfl
        have td2 : decide (Ty.bl = Ty.int) = false := rfl
        have td3 : decide (Ty.bl = Ty.bl) = true := rfl
        have ty : ∀ ts : List T, (T.tup ts).ty = some .tup := fun _ => rfl
        simp! only [wIsX_e, wMk0_e, wMk_e, wAppD_e, ty, isSub, beq_self_eq_true, Bool.true_or, z2, wfor_cons, wfor_nil, ea, eb]
        cases a with
        | int i =>
          cases ea
          cases b with
          | int j =>
            cases eb
            simp! only [wIsX_e, wMk0_e, wMk_e, wAppD_e, isSub, beq_self_eq_true, Bool.true_or, Bool.or_false, Bool.false_or, _law_common_eq, shareB, ti, td0, td1, td2, td3]
            by_cases h : 0 < j
            · have h1 : 1 ≤ j := by omega
              simp only [decide_eq_true h, decide_eq_true h1, Bool.true_and]
              congr 2
              by_cases h2 : Int.gcd i j = 1
              · rw [h2]; rfl
              · have h3 : ((Int.gcd i j : Int) == 1) = false := by rw [beq_eq_false_iff_ne]; omega
                have h4 : (Int.gcd i j == 1) = false := by rw [beq_eq_false_iff_ne]; exact h2
                rw [h3, h4]
            · have h1 : ¬ 1 ≤ j := by omega
              simp only [decide_eq_false h, decide_eq_false h1, Bool.false_and]
          | _ => first | (cases eb; rfl) | cases eb
        | _ => first | (cases ea; rfl) | cases ea
    · have h2 : ((xs.length : Int) == 2) = false := by rw [beq_eq_false_iff_ne]; omega
      have h3 : shareB (.tup xs) = false := by
        match xs, l with
        | [], _ => rfl
        | [a], _ => cases a <;> rfl
        | a :: b :: c :: r, _ => cases a <;> (try rfl) <;> cases b <;> rfl
      have ty : (T.tup xs).ty = some .tup := rfl
      simp! only [wIsX_e, wMk0_e, wMk_e, wAppD_e, ty, isSub, beq_self_eq_true, Bool.true_or, h2, h3, Bool.not_false]
  | _ => simp! only [wIsX_e, wMk0_e, wMk_e, wAppD_e, e]; first | (cases e; rfl) | cases e
theorem num_cross {a b : Int} (hb : b ≠ 0) : (Rat.divInt a b).num * b = a * ((Rat.divInt a b).den : Int) := by
  have h : Rat.divInt (Rat.divInt a b).num ((Rat.divInt a b).den : Int) = Rat.divInt a b := Rat.num_divInt_den _
  exact (Rat.divInt_eq_divInt_iff (by have := (Rat.divInt a b).den_nz; omega) hb).mp h
theorem sh_one (a : Int) : shT (Rat.divInt a 1) = .tup [.int a, .int 1] := by
  unfold shT
  rw [div_num (by decide), div_den (by decide)]
  simp
theorem up_sm {z : Int} (hz : z.natAbs ≤ 100000000000000000) : Sm 0 57 (.int z) := Sm.int (by show z.natAbs < 144115188075855872; omega) (by decide) (by decide)
theorem made_ok {a b : Int} (ha : a.natAbs ≤ 100000000000000000) (hb : b.natAbs ≤ 100000000000000000) (h0 : b ≠ 0) {c : Nat} {Q : QT} : W__law_made_right [.int a, .int b] c Q = Q (.bl true) c := by
  have hz : b.natAbs < 2 ^ 9000 := Nat.lt_of_lt_of_le (show b.natAbs < 2 ^ 57 by show b.natAbs < 144115188075855872; omega) (pow9 (by decide))
  have s : Sz 57 (Rat.divInt a b) := Sz.divInt h0 (by show a.natAbs < 144115188075855872; omega) (by show b.natAbs < 144115188075855872; omega)
  have ok := (Sm.sh s (by decide) (by decide)).okr (by decide) (by decide)
  have rb := (Sm.sh s (by decide) (by decide)).rb
  have n1 : ∀ {P : T → Prop}, vMulA (.int (Rat.divInt a b).num) (.int b) P = P (.int ((Rat.divInt a b).num * b)) := fun {P} => vMul_c (.f (few_num s (by decide)) (few_pow (k := 57) (by show b.natAbs < 144115188075855872; omega) (by decide)))
  have n2 : ∀ {P : T → Prop}, vMulA (.int a) (.int ((Rat.divInt a b).den : Int)) P = P (.int (a * ((Rat.divInt a b).den : Int))) := fun {P} => vMul_c (.f (few_pow (k := 57) (by show a.natAbs < 144115188075855872; omega) (by decide)) (few_den s (by decide)))
  unfold W__law_made_right WB__law_made_right
  simp! only [wIsX_e, wMk0_e, wMk_e, wAppD_e, share_of_eq h0 hz, _law_share_eq h0 hz, vRepr_o ok, is_share_eq rb, shareB_shT, n1, n2, num_cross h0, beq_self_eq_true]
end Mine
set_option Elab.async false
set_option linter.all false
set_option autoImplicit false
set_option maxRecDepth 100000
namespace Mine
open PySem PySem.Spec PyProof.Rows L2 EV
set_option maxHeartbeats 1000000
local macro_rules | `(tactic| simp! only [$xs,*]) => `(tactic| simp only [wBin_d, wB2_d, wB1_d, wVar_d, wK_d, wNil_d, wCons_d, wTup_d, wLst_d, wIf_d, wAnd2_d, wOr2_d, wOrT_d, wAndT_d, wNot1_d, wNeg_d, wChain_d, wB_d, wTru_d, wtNot_d, wtAnd_d, wtOr_d, wtTrue_d, woNone_d, woSome_d, wSl_d, wSlL_d, wRevA_d, wApp_d, wAppK_d, wIsi_d, wSeq_d, wR1_d, wR2_d, wEnum_d, wLC_d, wDict0_d, wgSet_d, wgNil_d, wgCons_d, wgSeq_t, wgSeq_l, wsNext_d, wsBrk_d, wsCont_d, wsSeq_d, wsIf_d, wsExpr_d, wsRet_d, wsSet_d, wsPar_d, wsPar3_d, wsAsg_d, wsAppend_d, wsExtend_d, wsReverse_d, wsFor_d, wsWhile_d, wFn_d, wFnN_d, wDraw_d, vSub_d, vLt_d, vLe_d, vGt_d, vGe_d, vMax2_d, vMin2_d, vMul_t, vMul_l, vAdd_d, vAdd_t, vAdd_l, vCat_d, vEq_i, vNe_i, vEq_s, vNe_s, vIx_t, vIx_l, tAt_0, tAt_1, tAt_2, vAbs_d, vLen_t, vLen_l, vTuple_l, vTuple_t, vList_l, vList_t, vInt_b, vInt_i, vNotB_d, vIsN_d, vNotN_d, vIx_sh0, vIx_sh1, vEq_sh, vNe_sh, EV.startT, List.map_cons, List.map_nil, List.length_cons, List.length_nil, List.replicate_succ, List.replicate_zero, List.nil_append, List.cons_append, List.append_nil, List.getElem?_cons_zero, List.getElem?_cons_succ, List.set_cons_zero, List.set_cons_succ, Nat.reduceAdd, Nat.reduceSub, Nat.zero_add, wipeT, mIntT, sel, List.filterMap_cons, List.filterMap_nil, Bool.false_eq_true, if_false, if_true, true_and, and_true, and_self, Bool.and_self, Bool.not_true, Bool.not_false, decide_true, decide_false, Option.getD_some, $xs,*])
local macro_rules | `(tactic| simp! only [$xs,*] $l:location) => `(tactic| simp only [wBin_d, wB2_d, wB1_d, wVar_d, wK_d, wNil_d, wCons_d, wTup_d, wLst_d, wIf_d, wAnd2_d, wOr2_d, wOrT_d, wAndT_d, wNot1_d, wNeg_d, wChain_d, wB_d, wTru_d, wtNot_d, wtAnd_d, wtOr_d, wtTrue_d, woNone_d, woSome_d, wSl_d, wSlL_d, wRevA_d, wApp_d, wAppK_d, wIsi_d, wSeq_d, wR1_d, wR2_d, wEnum_d, wLC_d, wDict0_d, wgSet_d, wgNil_d, wgCons_d, wgSeq_t, wgSeq_l, wsNext_d, wsBrk_d, wsCont_d, wsSeq_d, wsIf_d, wsExpr_d, wsRet_d, wsSet_d, wsPar_d, wsPar3_d, wsAsg_d, wsAppend_d, wsExtend_d, wsReverse_d, wsFor_d, wsWhile_d, wFn_d, wFnN_d, wDraw_d, vSub_d, vLt_d, vLe_d, vGt_d, vGe_d, vMax2_d, vMin2_d, vMul_t, vMul_l, vAdd_d, vAdd_t, vAdd_l, vCat_d, vEq_i, vNe_i, vEq_s, vNe_s, vIx_t, vIx_l, tAt_0, tAt_1, tAt_2, vAbs_d, vLen_t, vLen_l, vTuple_l, vTuple_t, vList_l, vList_t, vInt_b, vInt_i, vNotB_d, vIsN_d, vNotN_d, vIx_sh0, vIx_sh1, vEq_sh, vNe_sh, EV.startT, List.map_cons, List.map_nil, List.length_cons, List.length_nil, List.replicate_succ, List.replicate_zero, List.nil_append, List.cons_append, List.append_nil, List.getElem?_cons_zero, List.getElem?_cons_succ, List.set_cons_zero, List.set_cons_succ, Nat.reduceAdd, Nat.reduceSub, Nat.zero_add, wipeT, mIntT, sel, List.filterMap_cons, List.filterMap_nil, Bool.false_eq_true, if_false, if_true, true_and, and_true, and_self, Bool.and_self, Bool.not_true, Bool.not_false, decide_true, decide_false, Option.getD_some, $xs,*] $l:location)
local macro_rules | `(tactic| dsimp! only [$xs,*]) => `(tactic| simp only [wBin_d, wB2_d, wB1_d, wVar_d, wK_d, wNil_d, wCons_d, wTup_d, wLst_d, wIf_d, wAnd2_d, wOr2_d, wOrT_d, wAndT_d, wNot1_d, wNeg_d, wChain_d, wB_d, wTru_d, wtNot_d, wtAnd_d, wtOr_d, wtTrue_d, woNone_d, woSome_d, wSl_d, wSlL_d, wRevA_d, wApp_d, wAppK_d, wIsi_d, wSeq_d, wR1_d, wR2_d, wEnum_d, wLC_d, wDict0_d, wgSet_d, wgNil_d, wgCons_d, wgSeq_t, wgSeq_l, wsNext_d, wsBrk_d, wsCont_d, wsIf_d, wsExpr_d, wsRet_d, wsSet_d, wsPar_d, wsPar3_d, wsAsg_d, wsAppend_d, wsExtend_d, wsReverse_d, wsFor_d, wsWhile_d, wFn_d, wFnN_d, wDraw_d, vSub_d, vLt_d, vLe_d, vGt_d, vGe_d, vMax2_d, vMin2_d, vMul_t, vMul_l, vAdd_d, vAdd_t, vAdd_l, vCat_d, vEq_i, vNe_i, vEq_s, vNe_s, vIx_t, vIx_l, tAt_0, tAt_1, tAt_2, vAbs_d, vLen_t, vLen_l, vTuple_l, vTuple_t, vList_l, vList_t, vInt_b, vInt_i, vNotB_d, vIsN_d, vNotN_d, vIx_sh0, vIx_sh1, vEq_sh, vNe_sh, EV.startT, List.map_cons, List.map_nil, List.length_cons, List.length_nil, List.replicate_succ, List.replicate_zero, List.nil_append, List.cons_append, List.append_nil, List.getElem?_cons_zero, List.getElem?_cons_succ, List.set_cons_zero, List.set_cons_succ, Nat.reduceAdd, Nat.reduceSub, Nat.zero_add, wipeT, mIntT, sel, List.filterMap_cons, List.filterMap_nil, Bool.false_eq_true, if_false, if_true, true_and, and_true, and_self, Bool.and_self, Bool.not_true, Bool.not_false, decide_true, decide_false, Option.getD_some, $xs,*])
local macro_rules | `(tactic| dsimp! only [$xs,*] $l:location) => `(tactic| simp only [wBin_d, wB2_d, wB1_d, wVar_d, wK_d, wNil_d, wCons_d, wTup_d, wLst_d, wIf_d, wAnd2_d, wOr2_d, wOrT_d, wAndT_d, wNot1_d, wNeg_d, wChain_d, wB_d, wTru_d, wtNot_d, wtAnd_d, wtOr_d, wtTrue_d, woNone_d, woSome_d, wSl_d, wSlL_d, wRevA_d, wApp_d, wAppK_d, wIsi_d, wSeq_d, wR1_d, wR2_d, wEnum_d, wLC_d, wDict0_d, wgSet_d, wgNil_d, wgCons_d, wgSeq_t, wgSeq_l, wsNext_d, wsBrk_d, wsCont_d, wsIf_d, wsExpr_d, wsRet_d, wsSet_d, wsPar_d, wsPar3_d, wsAsg_d, wsAppend_d, wsExtend_d, wsReverse_d, wsFor_d, wsWhile_d, wFn_d, wFnN_d, wDraw_d, vSub_d, vLt_d, vLe_d, vGt_d, vGe_d, vMax2_d, vMin2_d, vMul_t, vMul_l, vAdd_d, vAdd_t, vAdd_l, vCat_d, vEq_i, vNe_i, vEq_s, vNe_s, vIx_t, vIx_l, tAt_0, tAt_1, tAt_2, vAbs_d, vLen_t, vLen_l, vTuple_l, vTuple_t, vList_l, vList_t, vInt_b, vInt_i, vNotB_d, vIsN_d, vNotN_d, vIx_sh0, vIx_sh1, vEq_sh, vNe_sh, EV.startT, List.map_cons, List.map_nil, List.length_cons, List.length_nil, List.replicate_succ, List.replicate_zero, List.nil_append, List.cons_append, List.append_nil, List.getElem?_cons_zero, List.getElem?_cons_succ, List.set_cons_zero, List.set_cons_succ, Nat.reduceAdd, Nat.reduceSub, Nat.zero_add, wipeT, mIntT, sel, List.filterMap_cons, List.filterMap_nil, Bool.false_eq_true, if_false, if_true, true_and, and_true, and_self, Bool.and_self, Bool.not_true, Bool.not_false, decide_true, decide_false, Option.getD_some, $xs,*] $l:location)
theorem str_sm {x : Str} (h : x.cps.toList.all (fun c => decide (c < 1114112)) = true) (hw : (T.str x).pd.weight ≤ 57) : Sm 0 57 (.str x) := Sm.str h hw
theorem one_sm : Sm 1 58 (.tup [.int 1]) := (SmL.one (up_sm (by decide))).tup
theorem oneL_sm : Sm 1 58 (.lst [.int 1]) := (SmL.one (up_sm (by decide))).lst
theorem ask_ok {x : T} {w : Nat} (s : Sm 4 w x) (hw : w ≤ 8000) : x.okr ∧ x.repb = true := ⟨s.okr (by decide) hw, s.rb⟩
theorem bl_okr (b : Bool) : (T.bl b).okr := (Sm.bl b).okr (by decide) (by decide)
theorem ask_body {x : T} {w : Nat} (s : Sm 4 w x) (hw : w ≤ 8000) {v2 v4 v5 v6 v7 v8 v9 v10 v11 : Option T} {c : Nat} {K : QS} (h : K (.next [none, some .pen, v2, some x, v4, v5, v6, v7, v8, v9, v10, v11]) c) :
    (wsIf (wB (wBin vNe (wB1 vRepr (wApp W_is_share (wCons (wVar 3) wNil))) (wB1 vRepr (wApp W__law_is_share (wCons (wVar 3) wNil))))) (wsRet (wK (T.bl false))) wsNext) [none, some .pen, v2, some x, v4, v5, v6, v7, v8, v9, v10, v11] c K := by
  simp! only [wIsX_e, wMk0_e, wMk_e, wAppD_e, is_share_eq s.rb, _law_is_share_eq s.rb, vRepr_o (bl_okr _)]
  exact h
theorem bent_body {x : T} {w : Nat} (s : Sm 4 w x) (hw : w ≤ 8000) {v2 v4 v5 v6 v7 v8 v9 v10 v11 : Option T} {c : Nat} {K : QS} (h : ∀ y, K (.next [none, some .pen, v2, some x, v4, v5, v6, v7, v8, v9, v10, some y]) c) :
    (wsSeq (wsSet 11 (wB1 vRepr (wVar 3))) (wsSeq (wsIf (wtOr (wB (wBin vNe (wB1 vRepr (wApp W_is_share (wCons (wVar 3) wNil))) (wB1 vRepr (wApp W__law_is_share (wCons (wVar 3) wNil))))) (wB (wBin vNe (wB1 vRepr (wVar 3)) (wVar 11)))) (wsRet (wK (T.bl false))) wsNext) (wsIf (wB (wBin vNe (wB1 vRepr (wAppK W_is_share [0] 0 1 wNil (wCons (wVar 3) wNil))) (wB1 vRepr (wApp W__law_is_share (wCons (wVar 3) wNil))))) (wsRet (wK (T.bl false))) wsNext))) [none, some .pen, v2, some x, v4, v5, v6, v7, v8, v9, v10, v11] c K := by
  simp! only [wIsX_e, wMk0_e, wMk_e, wAppD_e, is_share_eq s.rb, _law_is_share_eq s.rb, vRepr_o (bl_okr _), vRepr_o (ask_ok s hw).1]
  exact h _
theorem wr_law : WR_law [none, some .pen, none, none, none, none, none, none, none, none, none, none] 0 fun fl _ => fl = .ret (.bl true) := by
  have p5 : ∀ {P : T → Prop}, vPow (.int 10) (.int 5) P = P (.int 100000) := fun {P} => by rw [vPow_s (by decide) (by decide) (by decide), ten5]
  have five : (5 ≤ sizeLine) := by rw [sizeLine_eq]; decide
  have nine : (9 ≤ sizeLine) := by rw [sizeLine_eq]; decide
  have three : (3 ≤ sizeLine) := by rw [sizeLine_eq]; decide
  have seven : (7 ≤ sizeLine) := by rw [sizeLine_eq]; decide
  have tenl : (10 ≤ sizeLine) := by rw [sizeLine_eq]; decide
  have one : (1 ≤ sizeLine) := by rw [sizeLine_eq]; decide
  have z0 : (0 ≤ sizeLine) := Nat.zero_le _
  unfold WR_law
  refine wsSeq_p (fun τ c => ∃ v2 v3 v6 v7 v8 v9 v10 v11, τ = [none, some .pen, v2, v3, none, none, v6, v7, v8, v9, v10, v11]) (fun KK kk _ => ?_) ?_
  · rw [wsFor_d, wR1_d, wK_d]
    refine ⟨⟨by decide, by decide⟩, ?_⟩
    refine wfor_inv (fun i τ c => c ≤ 20 * i ∧ ∃ v2 v3 v6 v7 v8 v9 v10 v11, τ = [none, some .pen, v2, v3, none, none, v6, v7, v8, v9, v10, v11]) ?_ ?_ ⟨by omega, _, _, _, _, _, _, _, _, rfl⟩
    · intro i x τ c K hx ⟨hc, v2, v3, v6, v7, v8, v9, v10, v11, e⟩ k1 _ _ _
      subst e
      obtain ⟨hi, rfl⟩ := rangeT_get hx
      have hi6 : i < 12 := by simpa using hi
      rw [wgSet_d]
      simp only [List.set_cons_zero, List.set_cons_succ]
      refine wsSeq_p (fun τ1 c1 => c1 ≤ c + 1 ∧ ∃ b : Int, 1 ≤ b ∧ b ≤ 100000 ∧ τ1 = [none, some .pen, some (.int i), v3, none, none, some (.int b), v7, v8, v9, v10, v11]) (fun K k _ => ?_) ?_
      · simp! only [wIsX_e, wMk0_e, wMk_e, wAppD_e, p5, five]
        refine ⟨⟨by omega, by omega, by omega⟩, fun r1 a1 b1 => ?_⟩
        obtain ⟨b, eb, hb0, hb1⟩ := pick_int (L := [T.int 1, .int 2, .int 6, .int 97, .int 100000]) (P := fun i => 1 ≤ i ∧ i ≤ 100000) (by
          intro x hx
          simp only [List.mem_cons, List.not_mem_nil, or_false] at hx
          rcases hx with rfl | rfl | rfl | rfl | rfl <;> exact ⟨_, rfl, by omega⟩) a1 (by show r1 < 5; omega)
        rw [tAt_n a1 eb]
        exact k _ _ ⟨by omega, b, hb0, hb1, rfl⟩
      rintro _ c1 ⟨h1, b, hb0, hb1, rfl⟩
      refine wsSeq_p (fun τ1 c2 => c2 ≤ c + 9 ∧ ∃ up dn : Int, up.natAbs ≤ 100000000000000000 ∧ dn.natAbs ≤ 100000000000000000 ∧ τ1 = [none, some .pen, some (.int i), v3, none, none, some (.int b), v7, v8, some (.int up), some (.int dn), v11]) (fun K k _ => ?_) ?_
      · have bnd : ∀ z : Int, z.natAbs ≤ 1000000000000 → (z * b).natAbs ≤ 100000000000000000 := fun z hz => by
          rw [Int.natAbs_mul]
          exact Nat.le_trans (Nat.mul_le_mul hz (show b.natAbs ≤ 100000 by omega)) (by decide)
        have mb : ∀ {z : Int} {P : T → Prop}, vMulA (.int z) (.int b) P = P (.int (z * b)) := fun {z P} => vMul_c (.r (by omega) (by omega))
        simp! only [wIsX_e, wMk0_e, wMk_e, wAppD_e]
        refine number_ok (by omega) fun z1 c3 hz1 h3 h4 => ?_
        rw [mb]
        refine number_ok (by omega) fun z2 c4 hz2 h5 h6 => ?_
        rw [mb]
        exact k _ _ ⟨by omega, z1 * b, z2 * b, bnd z1 hz1, bnd z2 hz2, rfl⟩
      rintro _ c2 ⟨h2, up, dn, hu, hd, rfl⟩
      refine wsSeq_p (fun τ1 c3 => c3 = c2 ∧ τ1 = [none, some .pen, some (.int i), v3, none, none, some (.int b), v7, v8, some (.int up), some (.int dn), v11]) (fun K k _ => ?_) ?_
      · have rf : ∀ {c : Nat} {Q : QT}, W__law_refused [.int up] c Q = Q (.bl true) c := fun {c Q} => rfl
        have sr : ∀ {c : Nat} {Q : QT}, W_share_of [.int up, .int 1] c Q = Q (.tup [.int up, .int 1]) c := fun {c Q} => by
          rw [share_of_eq (by decide) (Nat.lt_of_lt_of_le (show (1 : Int).natAbs < 2 ^ 57 by decide) (pow9 (by decide))), sh_one]
        have o1 : (T.tup [.int up, .int 1]).okr := ((SmL.cons (up_sm hu) (SmL.one (up_sm (by decide)))).tup).okr (by decide) (by decide)
        simp! only [wIsX_e, wMk0_e, wMk_e, wAppD_e, rf, sr, vRepr_o o1, two_le]
        exact k _ _ ⟨rfl, rfl⟩
      rintro _ _ ⟨e, rfl⟩
      rw [e]; clear e
      refine wsSeq_p (fun τ1 c3 => c3 = c2 ∧ τ1 = [none, some .pen, some (.int i), v3, none, none, some (.int b), v7, v8, some (.int up), some (.int dn), v11]) (fun K k _ => ?_) ?_
      · by_cases h0 : dn = 0
        · subst h0
          simp! only [wIsX_e, wMk0_e, wMk_e, wAppD_e, beq_self_eq_true]
          exact k _ _ ⟨rfl, rfl⟩
        · have h1 : (dn == 0) = false := by rw [beq_eq_false_iff_ne]; exact h0
          simp! only [wIsX_e, wMk0_e, wMk_e, wAppD_e, h1, made_ok hu hd h0]
          exact k _ _ ⟨rfl, rfl⟩
      rintro _ _ ⟨e, rfl⟩
      rw [e]; clear e
      refine wsSeq_p (fun τ1 c3 => c3 ≤ c2 + 1 ∧ ∃ x, Sm 1 58 x ∧ τ1 = [none, some .pen, some (.int i), v3, none, none, some (.int b), some x, v8, some (.int up), some (.int dn), v11]) (fun K k _ => ?_) ?_
      · simp! only [wIsX_e, wMk0_e, wMk_e, wAppD_e, eight, one]
        refine ⟨⟨by omega, by omega, by omega⟩, fun r1 a1 b1 => ?_⟩
        obtain ⟨x, eb, sx⟩ := pick (L := [T.non, .bl true, .str "1", .tup [.int 1], .lst [.int 1], .int up, .int 0, .int (-1)]) (P := Sm 1 58) (by
          intro x hx
          simp only [List.mem_cons, List.not_mem_nil, or_false] at hx
          rcases hx with rfl | rfl | rfl | rfl | rfl | rfl | rfl | rfl
          · exact Sm.non.mono (by decide) (by decide)
          · exact (Sm.bl _).mono (by decide) (by decide)
          · exact (str_sm (by decide) (by decide)).mono (by decide) (by decide)
          · exact one_sm
          · exact oneL_sm
          · exact (up_sm hu).mono (by decide) (by decide)
          · exact (up_sm (by decide)).mono (by decide) (by decide)
          · exact (up_sm (by decide)).mono (by decide) (by decide)) a1 (by show r1 < 8; omega)
        rw [tAt_n a1 eb]
        exact k _ _ ⟨by omega, x, sx, rfl⟩
      rintro _ c3 ⟨h3, od, so, rfl⟩
      refine wsSeq_p (fun τ1 c4 => c4 = c3 ∧ ∃ L, (∀ y ∈ L, Sm 4 300 y) ∧ τ1 = [none, some .pen, some (.int i), v3, none, none, some (.int b), some od, some (.lst L), some (.int up), some (.int dn), v11]) (fun K k _ => ?_) ?_
      · simp! only [wIsX_e, wMk0_e, wMk_e, wAppD_e, nine, two_le, three, one]
        refine k _ _ ⟨rfl, _, ?_, rfl⟩
        have ha : (if dn < 0 then -dn else dn).natAbs ≤ 100000000000000000 := by split <;> omega
        have u := up_sm hu
        have d := up_sm hd
        have n1 : Sm 0 57 (.int 1) := up_sm (by decide)
        have n7 : Sm 0 57 (.int 7) := up_sm (by decide)
        intro y hy
        simp only [List.mem_cons, List.not_mem_nil, or_false] at hy
        rcases hy with rfl | rfl | rfl | rfl | rfl | rfl | rfl | rfl | rfl
        · exact (SmL.cons u (SmL.one d)).tup.mono (by decide) (by decide)
        · exact (SmL.cons d (SmL.one u)).tup.mono (by decide) (by decide)
        · exact (SmL.cons u (SmL.one (up_sm ha))).tup.mono (by decide) (by decide)
        · exact (SmL.cons u (SmL.cons d (SmL.one n1))).tup.mono (by decide) (by decide)
        · exact (SmL.one u).tup.mono (by decide) (by decide)
        · exact (SmL.cons u (SmL.one d)).lst.mono (by decide) (by decide)
        · exact (SmL.cons so (SmL.one (n7.mono (Nat.zero_le _) (Nat.le_refl _)))).tup.mono (by decide) (by decide)
        · exact (SmL.cons (u.mono (Nat.zero_le _) (Nat.le_refl _)) (SmL.one so)).tup.mono (by decide) (by decide)
        · exact u.mono (by decide) (by decide)
      rintro _ _ ⟨e, L, hL, rfl⟩
      rw [e]; clear e
      simp only [wsFor_d, wSeq_d, wVar_d, List.getElem?_cons_zero, List.getElem?_cons_succ]
      refine wfor_inv (fun j τ c' => c' = c3 ∧ ∃ v3 v11, τ = [none, some .pen, some (.int i), v3, none, none, some (.int b), some od, some (.lst L), some (.int up), some (.int dn), v11]) ?_ ?_ ⟨rfl, _, _, rfl⟩
      · intro j x τ c' K2 hx ⟨e, w3, w11, e2⟩ k2 _ _ _
        subst e e2
        rw [wgSet_d]
        simp only [List.set_cons_zero, List.set_cons_succ]
        exact bent_body (hL x (List.mem_of_getElem? hx)) (by decide) fun y => k2 _ _ ⟨rfl, _, _, rfl⟩
      · rintro τ c' ⟨rfl, w3, w11, rfl⟩
        exact k1 _ _ ⟨by omega, _, _, _, _, _, _, _, _, rfl⟩
    · rintro τ c ⟨hc, v2, v3, v6, v7, v8, v9, v10, v11, rfl⟩
      exact kk _ _ ⟨_, _, _, _, _, _, _, _, rfl⟩
  rintro _ c ⟨v2, v3, v6, v7, v8, v9, v10, v11, rfl⟩
  refine wsSeq_p (fun τ c => ∃ v3, τ = [none, some .pen, v2, v3, none, none, v6, v7, v8, v9, v10, v11]) (fun KK kk _ => ?_) ?_
  · simp only [wsFor_d]
    simp! only [wIsX_e, wMk0_e, wMk_e, wAppD_e, tenl, z0, two_le]
    refine wfor_inv (fun j τ c' => ∃ v3, τ = [none, some .pen, v2, v3, none, none, v6, v7, v8, v9, v10, v11]) ?_ ?_ ⟨_, rfl⟩
    · intro j x τ c' K2 hx ⟨w3, e2⟩ k2 _ _ _
      subst e2
      rw [wgSet_d]
      simp only [List.set_cons_zero, List.set_cons_succ]
      refine ask_body (w := 300) ?_ (by decide) (k2 _ _ ⟨_, rfl⟩)
      have hm := List.mem_of_getElem? hx
      have n : ∀ z : Int, z.natAbs ≤ 3 → Sm 0 57 (.int z) := fun z hz => up_sm (by omega)
      simp only [List.mem_cons, List.not_mem_nil, or_false] at hm
      rcases hm with rfl | rfl | rfl | rfl | rfl | rfl | rfl | rfl | rfl | rfl
      · exact Sm.non.mono (by decide) (by decide)
      · exact (Sm.bl _).mono (by decide) (by decide)
      · exact (str_sm (by decide) (by decide)).mono (by decide) (by decide)
      · exact (SmL.nil (m := 0)).lst.mono (by decide) (by decide)
      · exact Sm.dct0.mono (by decide) (by decide)
      · exact (SmL.nil (m := 0)).tup.mono (by decide) (by decide)
      · exact (SmL.cons (n 0 (by decide)) (SmL.one (n 1 (by decide)))).tup.mono (by decide) (by decide)
      · exact (SmL.cons (n 0 (by decide)) (SmL.one (n 2 (by decide)))).tup.mono (by decide) (by decide)
      · exact (SmL.cons ((Sm.bl true).mono (w' := 57) (Nat.le_refl _) (by decide)) (SmL.one (n 1 (by decide)))).tup.mono (by decide) (by decide)
      · exact (SmL.cons (SmL.cons (n 1 (by decide)) (SmL.one (n 2 (by decide)))).tup (SmL.one ((n 1 (by decide)).mono (Nat.zero_le _) (Nat.le_refl _)))).tup.mono (by decide) (by decide)
    · rintro τ c' ⟨w3, rfl⟩
      exact kk _ _ ⟨_, rfl⟩
  rintro _ c' ⟨w3, rfl⟩
  have x1 : isxT [("NoCase", true), ("NoOrder", true), ("NoShare", false), ("NoText", true), ("NoThing", false), ("NoWeight", true)] (T.exc "NoOrder" Str.empty []) = some true := by decide +kernel
  have x2 : isxT [("NoCase", true), ("NoOrder", true), ("NoShare", false), ("NoText", true), ("NoThing", false), ("NoWeight", true)] (T.exc "NoWeight" Str.empty []) = some true := by decide +kernel
  have x3 : isxT [("NoCase", false), ("NoOrder", false), ("NoShare", false), ("NoText", false), ("NoThing", true), ("NoWeight", false)] (T.exc "NoThing" "thing" [T.int 1]) = some true := by decide +kernel
  have l2 : (0 + 1 + 1 < sizeLine) := by rw [sizeLine_eq]; decide
  have q1 : ∀ {P : T → Prop}, vEq (.lst [.str "line", .int 3, .tup [.str "turn", .int 1], .non, .tup [.int 0, .int 1], .tup [.int 1, .int 1], .tup [.int 1, .int 2]]) (.lst [.str "line", .int 3, .tup [.str "turn", .int 1], .non, .tup [.int 0, .int 1], .tup [.int 1, .int 1], .tup [.int 1, .int 2]]) P = P (.bl true) := fun {P} => by
    rw [vEq_o ⟨by first | rfl | decide +kernel, by decide⟩ ⟨by first | rfl | decide +kernel, by decide⟩ (fun a b e _ => by cases e)]
    rfl
  have q2 : ∀ {P : T → Prop}, vEq (.lst [.bl true, .bl true, .bl true]) (.lst (List.replicate (Int.toNat 3) [T.bl true]).flatten) P = P (.bl true) := fun {P} => by
    rw [vEq_o ⟨by first | rfl | decide +kernel, by decide⟩ ⟨by first | rfl | decide +kernel, by decide⟩ (fun a b e _ => by cases e)]
    rfl
  have sz3 : 1 * Int.toNat 3 ≤ sizeLine := by rw [sizeLine_eq]; decide
  have c3 : ((0 : Int) ≤ 3 ∧ (3 : Int) < 1000000 ∧ 1 * Int.toNat 3 ≤ sizeLine) := ⟨by decide, by decide, sz3⟩
  simp! only [wIsX_e, wMk0_e, wMk_e, wAppD_e, seven, two_le, one, x1, x2, x3, l2, q1, q2]
  exact c3
theorem law_true (ns : List Int) (hl : ns.length ≤ 63) : ∃ h', F_law [.fz (ns.map D.int)] [] = .ok (.bl true) h' := by
  have hc : EV.cutD (ns.map D.int) none (some 63) = ns.map D.int := by
    unfold EV.cutD HT.sIx
    simp only [List.length_map]
    rw [List.drop_zero, List.take_of_length_le]
    simp only [List.length_map]
    split <;> omega
  have three : (3 ≤ sizeLine) := by rw [sizeLine_eq]; decide
  have P : Pen [.lst (ns.map D.int), .lst (ns.map D.int), penO 1 0 0] 2 1 ns 0 0 := ⟨rfl, rfl, by decide, by omega, by omega⟩
  have cl : Closed [.lst (ns.map D.int), .lst (ns.map D.int), penO 1 0 0] := by
    have ib : ∀ m, belows m (ns.map D.int) = true := fun m => by
      clear hl hc P
      induction ns with
      | nil => rfl
      | cons n ns ih => simp [EV.belows, EV.below, ih]
    intro n o e
    match n, e with
    | 0, e => cases e; exact ib _
    | 1, e => cases e; exact ib _
    | 2, e => cases e; rfl
  have G : Good LP 2 1 (fun m => m = 2 ∨ m = 1) [.lst (ns.map D.int), .lst (ns.map D.int), penO 1 0 0] 0 :=
    ⟨⟨ns, 0, 0, P, by simp⟩, .inl rfl, .inr rfl, fun n b => by rcases b with rfl | rfl <;> simp, cl⟩
  have main : ∃ h', B_law (startD 12 [.fz (ns.map D.int)]) [] = .ok (.ret (.bl true)) h' := by
    have s0 : startD 12 [.fz (ns.map D.int)] = [some (.fz (ns.map D.int)), none, none, none, none, none, none, none, none, none, none, none] := rfl
    rw [s0]
    unfold B_law
    refine top_of (σ1 := [some (.fz (ns.map D.int)), some (.ref 2), none, none, none, none, none, none, none, none, none, none]) (set_n (x := .ref 2) ?_) G (RF.pen0 (i := 1) (by simp) rfl) (jr_law (jd_of draw_ok)) wr_law
    simp only [eLst_d, aCons_d, aNil_d, eApp_d, eSlA_d, eVar_d, eK_d, oNone_d, oSome_d, slA, hc, newL, bList, seqOf, List.nil_append, List.cons_append, bind_ok, List.getElem?_cons_zero, List.getElem?_cons_succ, List.length_cons, List.length_nil, Nat.reduceAdd, Nat.zero_add, three, if_true]
    rfl
  obtain ⟨h', main⟩ := main
  unfold F_law
  exact ⟨_, mkFn_ret (np := 1) rfl main⟩
end Mine
namespace Mine
open PySem PySem.Spec PyProof.Rows L2 EV
theorem walk {l : PySem.W.OpenLaw} {q : Program} {loose : List Str} {XP : (Str → Option Value) → Heap → Prop} {YP : World → Heap → Prop} {d : DefRec} {K : Params → PySem.W.Frag} (hn : l.most = some 63) (hdf : d.params.defaults = [])
    (hY : ∀ (w : World) (h : Heap), YP w h → (K w.params).In h)
    (F : ∀ (w : World) (mg : Str → Option Value) (fa : Addr) (h : Heap), (K w.params).In h → h.Ns mainGlobals mg → mg d.name = some (.ref fa) →
      ∃ fd : FuncData, (∀ (s : Shared) (u : Value), BindsTo s fd ⟨[u], []⟩ [("_law_script", u)]) ∧ ∀ base : Heap, (K w.params).In base → base.Ns mainGlobals mg → FnOk l.prog w (K w.params) mg base CX0 4 fa fd ["_law_script"] (spF (K w.params) 1 F_law)) :
    PySem.W.WalkO q loose XP YP l.row.toRowW d [] (fun f vs => PySem.call f vs) :=
  L2.walk_of (n := 63) (k := 4) (x := "_law_script") (CX := fun _ => CX0) (sp := fun w => spF (K w.params) 1 F_law) hn (by decide) hdf ⟨rfl, by decide, by decide, rfl⟩ hY F (fun _ H a ns hl hO hS => spF_law hl hO hS (law_true ns hl)) fun _ _ _ _ _ z => z
end Mine
open PySem PySem.W PyProof.Rows
set_option maxRecDepth 100000 in
set_option maxHeartbeats 0 in
theorem PySem.Challenge.cw_crossmarks_k01_shares_known_and_made_holds : PySem.Challenge.rw_crossmarks_k01_shares_known_and_made.Holds := by
  w_on; o_law; k_head; (case hw => w_witness2)
  k_fill
  refine Mine.walk (l := PySem.Challenge.rw_crossmarks_k01_shares_known_and_made) rfl rfl (fun w h Y => PySem.W.kIn_of Y) ?F
  case F =>
    intro w mg fa h KX G hmg
    refine' Mine.all_mk KX G hmg ?hh_a0 ?hh_l0 ?hh_e0 ?hh_k0 ?hh_a1 ?hh_l1 ?hh_e1 ?hh_k1 ?hh_a2 ?hh_l2 ?hh_e2 ?hh_k2 ?hh_a3 ?hh_l3 ?hh_e3 ?hh_k3 ?hh_a4 ?hh_l4 ?hh_e4 ?hh_k4 ?hh_a5 ?hh_l5 ?hh_e5 ?hh_k5 ?hh_a6 ?hh_l6 ?hh_e6 ?hh_k6 ?hh_a7 ?hh_l7 ?hh_e7 ?hh_k7 ?hh_a8 ?hh_l8 ?hh_e8 ?hh_k8 ?hh_a9 ?hh_l9 ?hh_e9 ?hh_k9 ?hh_a10 ?hh_l10 ?hh_e10 ?hh_k10 ?hh_a11 ?hh_l11 ?hh_e11 ?hh_k11 ?hh_a12 ?hh_l12 ?hh_e12 ?hh_k12 ?hh_z0 ?hh_z1 ?hh_z2 ?hh_z3 ?hh_z4 ?hh_z5 ?hh_z6 ?hh_z7 ?hh_z8 ?hh_z9 ?hh_z10 ?hh_z11 ?hh_t0 ?hh_g0 ?hh_y0 ?hh_g1 ?hh_y1 ?hh_g2 ?hh_y2 ?hh_cn0 ?hh_cx0 ?hh_v0 ?hh_v1 ?hh_v2 ?hh_v3 ?hh_v4 ?hh_v5 ?hh_v6 ?hh_v7 ?hh_v8 ?hh_v9 ?hh_v10 ?hh_v11
    (case hh_a0 => k_is)
    (case hh_l0 => k_is)
    (case hh_e0 => k_is)
    (case hh_k0 => k_is)
    (case hh_a1 => k_is)
    (case hh_l1 => k_is)
    (case hh_e1 => k_is)
    (case hh_k1 => k_is)
    (case hh_a2 => k_is)
    (case hh_l2 => k_is)
    (case hh_e2 => k_is)
    (case hh_k2 => k_is)
    (case hh_a3 => k_is)
    (case hh_l3 => k_is)
    (case hh_e3 => k_is)
    (case hh_k3 => k_is)
    (case hh_a4 => k_is)
    (case hh_l4 => k_is)
    (case hh_e4 => k_is)
    (case hh_k4 => k_is)
    (case hh_a5 => k_is)
    (case hh_l5 => k_is)
    (case hh_e5 => k_is)
    (case hh_k5 => k_is)
    (case hh_a6 => k_is)
    (case hh_l6 => k_is)
    (case hh_e6 => k_is)
    (case hh_k6 => k_is)
    (case hh_a7 => k_is)
    (case hh_l7 => k_is)
    (case hh_e7 => k_is)
    (case hh_k7 => k_is)
    (case hh_a8 => k_is)
    (case hh_l8 => k_is)
    (case hh_e8 => k_is)
    (case hh_k8 => k_is)
    (case hh_a9 => k_is)
    (case hh_l9 => k_is)
    (case hh_e9 => k_is)
    (case hh_k9 => k_is)
    (case hh_a10 => k_is)
    (case hh_l10 => k_is)
    (case hh_e10 => k_is)
    (case hh_k10 => k_is)
    (case hh_a11 => k_is)
    (case hh_l11 => k_is)
    (case hh_e11 => k_is)
    (case hh_k11 => k_is)
    (case hh_a12 => k_is)
    (case hh_l12 => k_is)
    (case hh_e12 => k_is)
    (case hh_k12 => k_is)
    (case hh_z0 => k_is)
    (case hh_z1 => k_is)
    (case hh_z2 => k_is)
    (case hh_z3 => k_is)
    (case hh_z4 => k_is)
    (case hh_z5 => k_is)
    (case hh_z6 => k_is)
    (case hh_z7 => k_is)
    (case hh_z8 => k_is)
    (case hh_z9 => k_is)
    (case hh_z10 => k_is)
    (case hh_z11 => k_is)
    (case hh_t0 => k_is)
    (case hh_g0 => k_is)
    (case hh_y0 => k_is)
    (case hh_g1 => k_is)
    (case hh_y1 => k_is)
    (case hh_g2 => k_is)
    (case hh_y2 => k_is)
    (case hh_cn0 => k_is)
    (case hh_cx0 => k_exc)
    (case hh_v0 =>
      refine' (EV.xm0_of KX G ?u1_v0 PySem.F.excBase_ValueError ?u2_v0 ?u3_v0)
      (case u1_v0 => k_is)
      (case u2_v0 => k_exc)
      (case u3_v0 => k_is))
    (case hh_v1 =>
      refine' (EV.xm0_of KX G ?u1_v1 PySem.F.excBase_ValueError ?u2_v1 ?u3_v1)
      (case u1_v1 => k_is)
      (case u2_v1 => k_exc)
      (case u3_v1 => k_is))
    (case hh_v2 =>
      refine' (EV.xmi_of KX G ?u1_v2 PySem.F.excBase_ValueError ?u2_v2 ⟨?u3_v2, ?u4_v2, ?u5_v2⟩ ?u6_v2 (EV.xin_of ?u7_v2 ?u8_v2 ?u9_v2 ?u10_v2 ?u11_v2 ?u12_v2 ?u13_v2 ?u14_v2 ?u15_v2 ?u16_v2 ?u17_v2) ?u18_v2 (EV.xst_of ?u19_v2 ?u20_v2 ?u21_v2 ?u22_v2 ?u23_v2 ?u24_v2) ⟨?u25_v2, ?u26_v2, ?u27_v2, ?u28_v2, ?u29_v2, ?u30_v2, ?u31_v2, ?u32_v2⟩)
      (case u1_v2 => k_is)
      (case u2_v2 => k_is)
      (case u3_v2 => first | rfl | decide +kernel)
      (case u4_v2 => first | rfl | decide +kernel)
      (case u5_v2 => first | rfl | decide +kernel)
      (case u6_v2 => k_is)
      (case u7_v2 => k_is)
      (case u8_v2 => k_is)
      (case u9_v2 => k_is)
      (case u10_v2 => first | rfl | decide +kernel)
      (case u11_v2 => first | rfl | decide +kernel)
      (case u12_v2 => first | rfl | decide +kernel)
      (case u13_v2 => first | rfl | decide +kernel)
      (case u14_v2 => first | rfl | decide +kernel)
      (case u15_v2 => first | rfl | decide +kernel)
      (case u16_v2 => first | rfl | decide +kernel)
      (case u17_v2 => exact fun _ _ _ => BindsTo.of_eq rfl)
      (case u18_v2 => k_is)
      (case u19_v2 => k_is)
      (case u20_v2 => k_is)
      (case u21_v2 => k_is)
      (case u22_v2 => k_is)
      (case u23_v2 => rfl)
      (case u24_v2 => intro self; simp only [PySem.refuseLoop_ref]; exact EV.ref_ValueError self)
      (case u25_v2 => k_is)
      (case u26_v2 => k_is)
      (case u27_v2 => k_is)
      (case u28_v2 => k_is)
      (case u29_v2 => k_is)
      (case u30_v2 => k_is)
      (case u31_v2 => k_is)
      (case u32_v2 => k_is))
    (case hh_v3 =>
      refine' (EV.xmi_of KX G ?u1_v3 PySem.F.excBase_ValueError ?u2_v3 ⟨?u3_v3, ?u4_v3, ?u5_v3⟩ ?u6_v3 (EV.xin_of ?u7_v3 ?u8_v3 ?u9_v3 ?u10_v3 ?u11_v3 ?u12_v3 ?u13_v3 ?u14_v3 ?u15_v3 ?u16_v3 ?u17_v3) ?u18_v3 (EV.xst_of ?u19_v3 ?u20_v3 ?u21_v3 ?u22_v3 ?u23_v3 ?u24_v3) ⟨?u25_v3, ?u26_v3, ?u27_v3, ?u28_v3, ?u29_v3, ?u30_v3, ?u31_v3, ?u32_v3⟩)
      (case u1_v3 => k_is)
      (case u2_v3 => k_is)
      (case u3_v3 => first | rfl | decide +kernel)
      (case u4_v3 => first | rfl | decide +kernel)
      (case u5_v3 => first | rfl | decide +kernel)
      (case u6_v3 => k_is)
      (case u7_v3 => k_is)
      (case u8_v3 => k_is)
      (case u9_v3 => k_is)
      (case u10_v3 => first | rfl | decide +kernel)
      (case u11_v3 => first | rfl | decide +kernel)
      (case u12_v3 => first | rfl | decide +kernel)
      (case u13_v3 => first | rfl | decide +kernel)
      (case u14_v3 => first | rfl | decide +kernel)
      (case u15_v3 => first | rfl | decide +kernel)
      (case u16_v3 => first | rfl | decide +kernel)
      (case u17_v3 => exact fun _ _ _ => BindsTo.of_eq rfl)
      (case u18_v3 => k_is)
      (case u19_v3 => k_is)
      (case u20_v3 => k_is)
      (case u21_v3 => k_is)
      (case u22_v3 => k_is)
      (case u23_v3 => rfl)
      (case u24_v3 => intro self; simp only [PySem.refuseLoop_ref]; exact EV.ref_ValueError self)
      (case u25_v3 => k_is)
      (case u26_v3 => k_is)
      (case u27_v3 => k_is)
      (case u28_v3 => k_is)
      (case u29_v3 => k_is)
      (case u30_v3 => k_is)
      (case u31_v3 => k_is)
      (case u32_v3 => k_is))
    (case hh_v4 =>
      refine' (EV.xmi_of KX G ?u1_v4 PySem.F.excBase_LookupError ?u2_v4 ⟨?u3_v4, ?u4_v4, ?u5_v4⟩ ?u6_v4 (EV.xin_of ?u7_v4 ?u8_v4 ?u9_v4 ?u10_v4 ?u11_v4 ?u12_v4 ?u13_v4 ?u14_v4 ?u15_v4 ?u16_v4 ?u17_v4) ?u18_v4 (EV.xst_of ?u19_v4 ?u20_v4 ?u21_v4 ?u22_v4 ?u23_v4 ?u24_v4) ⟨?u25_v4, ?u26_v4, ?u27_v4, ?u28_v4, ?u29_v4, ?u30_v4, ?u31_v4, ?u32_v4⟩)
      (case u1_v4 => k_is)
      (case u2_v4 => k_is)
      (case u3_v4 => first | rfl | decide +kernel)
      (case u4_v4 => first | rfl | decide +kernel)
      (case u5_v4 => first | rfl | decide +kernel)
      (case u6_v4 => k_is)
      (case u7_v4 => k_is)
      (case u8_v4 => k_is)
      (case u9_v4 => k_is)
      (case u10_v4 => first | rfl | decide +kernel)
      (case u11_v4 => first | rfl | decide +kernel)
      (case u12_v4 => first | rfl | decide +kernel)
      (case u13_v4 => first | rfl | decide +kernel)
      (case u14_v4 => first | rfl | decide +kernel)
      (case u15_v4 => first | rfl | decide +kernel)
      (case u16_v4 => first | rfl | decide +kernel)
      (case u17_v4 => exact fun _ _ _ => BindsTo.of_eq rfl)
      (case u18_v4 => k_is)
      (case u19_v4 => k_is)
      (case u20_v4 => k_is)
      (case u21_v4 => k_is)
      (case u22_v4 => k_is)
      (case u23_v4 => rfl)
      (case u24_v4 => intro self; simp only [PySem.refuseLoop_ref]; exact EV.ref_KeyError self)
      (case u25_v4 => k_is)
      (case u26_v4 => k_is)
      (case u27_v4 => k_is)
      (case u28_v4 => k_is)
      (case u29_v4 => k_is)
      (case u30_v4 => k_is)
      (case u31_v4 => k_is)
      (case u32_v4 => k_is))
    (case hh_v5 =>
      refine' (EV.xq1_of KX G ?u1_v5 ?u2_v5 (EV.tab1_cons ?u3_v5 ⟨?u4_v5, ?u5_v5, ?u6_v5, ?u7_v5, ?u8_v5, ?u9_v5, ?u10_v5, ?u11_v5⟩ ?u12_v5 (EV.tab1_cons ?u13_v5 ⟨?u14_v5, ?u15_v5, ?u16_v5, ?u17_v5, ?u18_v5, ?u19_v5, ?u20_v5, ?u21_v5⟩ ?u22_v5 (EV.tab1_cons ?u23_v5 ⟨?u24_v5, ?u25_v5, ?u26_v5, ?u27_v5, ?u28_v5, ?u29_v5, ?u30_v5, ?u31_v5⟩ ?u32_v5 (EV.tab1_cons ?u33_v5 ⟨?u34_v5, ?u35_v5, ?u36_v5, ?u37_v5, ?u38_v5, ?u39_v5, ?u40_v5, ?u41_v5⟩ ?u42_v5 (EV.tab1_cons ?u43_v5 ⟨?u44_v5, ?u45_v5, ?u46_v5, ?u47_v5, ?u48_v5, ?u49_v5, ?u50_v5, ?u51_v5⟩ ?u52_v5 (EV.tab1_cons ?u53_v5 ⟨?u54_v5, ?u55_v5, ?u56_v5, ?u57_v5, ?u58_v5, ?u59_v5, ?u60_v5, ?u61_v5⟩ ?u62_v5 EV.tab1_nil)))))))
      (case u1_v5 => k_is)
      (case u2_v5 => first | rfl | decide +kernel)
      (case u3_v5 => k_is)
      (case u4_v5 => k_is)
      (case u5_v5 => k_is)
      (case u6_v5 => k_is)
      (case u7_v5 => k_is)
      (case u8_v5 => k_is)
      (case u9_v5 => k_is)
      (case u10_v5 => k_is)
      (case u11_v5 => k_is)
      (case u12_v5 => first | rfl | decide +kernel)
      (case u13_v5 => k_is)
      (case u14_v5 => k_is)
      (case u15_v5 => k_is)
      (case u16_v5 => k_is)
      (case u17_v5 => k_is)
      (case u18_v5 => k_is)
      (case u19_v5 => k_is)
      (case u20_v5 => k_is)
      (case u21_v5 => k_is)
      (case u22_v5 => first | rfl | decide +kernel)
      (case u23_v5 => k_is)
      (case u24_v5 => k_is)
      (case u25_v5 => k_is)
      (case u26_v5 => k_is)
      (case u27_v5 => k_is)
      (case u28_v5 => k_is)
      (case u29_v5 => k_is)
      (case u30_v5 => k_is)
      (case u31_v5 => k_is)
      (case u32_v5 => first | rfl | decide +kernel)
      (case u33_v5 => k_is)
      (case u34_v5 => k_is)
      (case u35_v5 => k_is)
      (case u36_v5 => k_is)
      (case u37_v5 => k_is)
      (case u38_v5 => k_is)
      (case u39_v5 => k_is)
      (case u40_v5 => k_is)
      (case u41_v5 => k_is)
      (case u42_v5 => first | rfl | decide +kernel)
      (case u43_v5 => k_is)
      (case u44_v5 => k_is)
      (case u45_v5 => k_is)
      (case u46_v5 => k_is)
      (case u47_v5 => k_is)
      (case u48_v5 => k_is)
      (case u49_v5 => k_is)
      (case u50_v5 => k_is)
      (case u51_v5 => k_is)
      (case u52_v5 => first | rfl | decide +kernel)
      (case u53_v5 => k_is)
      (case u54_v5 => k_is)
      (case u55_v5 => k_is)
      (case u56_v5 => k_is)
      (case u57_v5 => k_is)
      (case u58_v5 => k_is)
      (case u59_v5 => k_is)
      (case u60_v5 => k_is)
      (case u61_v5 => k_is)
      (case u62_v5 => first | rfl | decide +kernel))
    (case hh_v6 =>
      refine' (EV.xq2_of KX G ?u1_v6 ?u2_v6 ?u3_v6 (EV.tabA_cons ?u4_v6 ⟨?u5_v6, ?u6_v6, ?u7_v6, ?u8_v6, ?u9_v6, ?u10_v6, ?u11_v6, ?u12_v6⟩ ?u13_v6 (EV.tabA_cons ?u14_v6 ⟨?u15_v6, ?u16_v6, ?u17_v6, ?u18_v6, ?u19_v6, ?u20_v6, ?u21_v6, ?u22_v6⟩ ?u23_v6 (EV.tabA_cons ?u24_v6 ⟨?u25_v6, ?u26_v6, ?u27_v6, ?u28_v6, ?u29_v6, ?u30_v6, ?u31_v6, ?u32_v6⟩ ?u33_v6 (EV.tabA_cons ?u34_v6 ⟨?u35_v6, ?u36_v6, ?u37_v6, ?u38_v6, ?u39_v6, ?u40_v6, ?u41_v6, ?u42_v6⟩ ?u43_v6 (EV.tabA_cons ?u44_v6 ⟨?u45_v6, ?u46_v6, ?u47_v6, ?u48_v6, ?u49_v6, ?u50_v6, ?u51_v6, ?u52_v6⟩ ?u53_v6 (EV.tabA_cons ?u54_v6 ⟨?u55_v6, ?u56_v6, ?u57_v6, ?u58_v6, ?u59_v6, ?u60_v6, ?u61_v6, ?u62_v6⟩ ?u63_v6 EV.tabA_nil)))))))
      (case u1_v6 => k_is)
      (case u2_v6 => k_is)
      (case u3_v6 => first | rfl | decide +kernel)
      (case u4_v6 => k_is)
      (case u5_v6 => k_is)
      (case u6_v6 => k_is)
      (case u7_v6 => k_is)
      (case u8_v6 => k_is)
      (case u9_v6 => k_is)
      (case u10_v6 => k_is)
      (case u11_v6 => k_is)
      (case u12_v6 => k_is)
      (case u13_v6 => first | rfl | decide +kernel)
      (case u14_v6 => k_is)
      (case u15_v6 => k_is)
      (case u16_v6 => k_is)
      (case u17_v6 => k_is)
      (case u18_v6 => k_is)
      (case u19_v6 => k_is)
      (case u20_v6 => k_is)
      (case u21_v6 => k_is)
      (case u22_v6 => k_is)
      (case u23_v6 => first | rfl | decide +kernel)
      (case u24_v6 => k_is)
      (case u25_v6 => k_is)
      (case u26_v6 => k_is)
      (case u27_v6 => k_is)
      (case u28_v6 => k_is)
      (case u29_v6 => k_is)
      (case u30_v6 => k_is)
      (case u31_v6 => k_is)
      (case u32_v6 => k_is)
      (case u33_v6 => first | rfl | decide +kernel)
      (case u34_v6 => k_is)
      (case u35_v6 => k_is)
      (case u36_v6 => k_is)
      (case u37_v6 => k_is)
      (case u38_v6 => k_is)
      (case u39_v6 => k_is)
      (case u40_v6 => k_is)
      (case u41_v6 => k_is)
      (case u42_v6 => k_is)
      (case u43_v6 => first | rfl | decide +kernel)
      (case u44_v6 => k_is)
      (case u45_v6 => k_is)
      (case u46_v6 => k_is)
      (case u47_v6 => k_is)
      (case u48_v6 => k_is)
      (case u49_v6 => k_is)
      (case u50_v6 => k_is)
      (case u51_v6 => k_is)
      (case u52_v6 => k_is)
      (case u53_v6 => first | rfl | decide +kernel)
      (case u54_v6 => k_is)
      (case u55_v6 => k_is)
      (case u56_v6 => k_is)
      (case u57_v6 => k_is)
      (case u58_v6 => k_is)
      (case u59_v6 => k_is)
      (case u60_v6 => k_is)
      (case u61_v6 => k_is)
      (case u62_v6 => k_is)
      (case u63_v6 => first | rfl | decide +kernel))
    (case hh_v7 =>
      refine' (EV.xqb_of ?u1_v7 (EV.tab1_cons ?u2_v7 ⟨?u3_v7, ?u4_v7, ?u5_v7, ?u6_v7, ?u7_v7, ?u8_v7, ?u9_v7, ?u10_v7⟩ ?u11_v7 (EV.tab1_cons ?u12_v7 ⟨?u13_v7, ?u14_v7, ?u15_v7, ?u16_v7, ?u17_v7, ?u18_v7, ?u19_v7, ?u20_v7⟩ ?u21_v7 (EV.tab1_cons ?u22_v7 ⟨?u23_v7, ?u24_v7, ?u25_v7, ?u26_v7, ?u27_v7, ?u28_v7, ?u29_v7, ?u30_v7⟩ ?u31_v7 (EV.tab1_cons ?u32_v7 ⟨?u33_v7, ?u34_v7, ?u35_v7, ?u36_v7, ?u37_v7, ?u38_v7, ?u39_v7, ?u40_v7⟩ ?u41_v7 (EV.tab1_cons ?u42_v7 ⟨?u43_v7, ?u44_v7, ?u45_v7, ?u46_v7, ?u47_v7, ?u48_v7, ?u49_v7, ?u50_v7⟩ ?u51_v7 (EV.tab1_cons ?u52_v7 ⟨?u53_v7, ?u54_v7, ?u55_v7, ?u56_v7, ?u57_v7, ?u58_v7, ?u59_v7, ?u60_v7⟩ ?u61_v7 EV.tab1_nil)))))))
      (case u1_v7 => first | rfl | decide +kernel)
      (case u2_v7 => k_is)
      (case u3_v7 => k_is)
      (case u4_v7 => k_is)
      (case u5_v7 => k_is)
      (case u6_v7 => k_is)
      (case u7_v7 => k_is)
      (case u8_v7 => k_is)
      (case u9_v7 => k_is)
      (case u10_v7 => k_is)
      (case u11_v7 => first | rfl | decide +kernel)
      (case u12_v7 => k_is)
      (case u13_v7 => k_is)
      (case u14_v7 => k_is)
      (case u15_v7 => k_is)
      (case u16_v7 => k_is)
      (case u17_v7 => k_is)
      (case u18_v7 => k_is)
      (case u19_v7 => k_is)
      (case u20_v7 => k_is)
      (case u21_v7 => first | rfl | decide +kernel)
      (case u22_v7 => k_is)
      (case u23_v7 => k_is)
      (case u24_v7 => k_is)
      (case u25_v7 => k_is)
      (case u26_v7 => k_is)
      (case u27_v7 => k_is)
      (case u28_v7 => k_is)
      (case u29_v7 => k_is)
      (case u30_v7 => k_is)
      (case u31_v7 => first | rfl | decide +kernel)
      (case u32_v7 => k_is)
      (case u33_v7 => k_is)
      (case u34_v7 => k_is)
      (case u35_v7 => k_is)
      (case u36_v7 => k_is)
      (case u37_v7 => k_is)
      (case u38_v7 => k_is)
      (case u39_v7 => k_is)
      (case u40_v7 => k_is)
      (case u41_v7 => first | rfl | decide +kernel)
      (case u42_v7 => k_is)
      (case u43_v7 => k_is)
      (case u44_v7 => k_is)
      (case u45_v7 => k_is)
      (case u46_v7 => k_is)
      (case u47_v7 => k_is)
      (case u48_v7 => k_is)
      (case u49_v7 => k_is)
      (case u50_v7 => k_is)
      (case u51_v7 => first | rfl | decide +kernel)
      (case u52_v7 => k_is)
      (case u53_v7 => k_is)
      (case u54_v7 => k_is)
      (case u55_v7 => k_is)
      (case u56_v7 => k_is)
      (case u57_v7 => k_is)
      (case u58_v7 => k_is)
      (case u59_v7 => k_is)
      (case u60_v7 => k_is)
      (case u61_v7 => first | rfl | decide +kernel))
    (case hh_v8 =>
      refine' (EV.xq1_of KX G ?u1_v8 ?u2_v8 (EV.tab1_cons ?u3_v8 ⟨?u4_v8, ?u5_v8, ?u6_v8, ?u7_v8, ?u8_v8, ?u9_v8, ?u10_v8, ?u11_v8⟩ ?u12_v8 (EV.tab1_cons ?u13_v8 ⟨?u14_v8, ?u15_v8, ?u16_v8, ?u17_v8, ?u18_v8, ?u19_v8, ?u20_v8, ?u21_v8⟩ ?u22_v8 (EV.tab1_cons ?u23_v8 ⟨?u24_v8, ?u25_v8, ?u26_v8, ?u27_v8, ?u28_v8, ?u29_v8, ?u30_v8, ?u31_v8⟩ ?u32_v8 (EV.tab1_cons ?u33_v8 ⟨?u34_v8, ?u35_v8, ?u36_v8, ?u37_v8, ?u38_v8, ?u39_v8, ?u40_v8, ?u41_v8⟩ ?u42_v8 (EV.tab1_cons ?u43_v8 ⟨?u44_v8, ?u45_v8, ?u46_v8, ?u47_v8, ?u48_v8, ?u49_v8, ?u50_v8, ?u51_v8⟩ ?u52_v8 (EV.tab1_cons ?u53_v8 ⟨?u54_v8, ?u55_v8, ?u56_v8, ?u57_v8, ?u58_v8, ?u59_v8, ?u60_v8, ?u61_v8⟩ ?u62_v8 EV.tab1_nil)))))))
      (case u1_v8 => k_is)
      (case u2_v8 => first | rfl | decide +kernel)
      (case u3_v8 => k_is)
      (case u4_v8 => k_is)
      (case u5_v8 => k_is)
      (case u6_v8 => k_is)
      (case u7_v8 => k_is)
      (case u8_v8 => k_is)
      (case u9_v8 => k_is)
      (case u10_v8 => k_is)
      (case u11_v8 => k_is)
      (case u12_v8 => first | rfl | decide +kernel)
      (case u13_v8 => k_is)
      (case u14_v8 => k_is)
      (case u15_v8 => k_is)
      (case u16_v8 => k_is)
      (case u17_v8 => k_is)
      (case u18_v8 => k_is)
      (case u19_v8 => k_is)
      (case u20_v8 => k_is)
      (case u21_v8 => k_is)
      (case u22_v8 => first | rfl | decide +kernel)
      (case u23_v8 => k_is)
      (case u24_v8 => k_is)
      (case u25_v8 => k_is)
      (case u26_v8 => k_is)
      (case u27_v8 => k_is)
      (case u28_v8 => k_is)
      (case u29_v8 => k_is)
      (case u30_v8 => k_is)
      (case u31_v8 => k_is)
      (case u32_v8 => first | rfl | decide +kernel)
      (case u33_v8 => k_is)
      (case u34_v8 => k_is)
      (case u35_v8 => k_is)
      (case u36_v8 => k_is)
      (case u37_v8 => k_is)
      (case u38_v8 => k_is)
      (case u39_v8 => k_is)
      (case u40_v8 => k_is)
      (case u41_v8 => k_is)
      (case u42_v8 => first | rfl | decide +kernel)
      (case u43_v8 => k_is)
      (case u44_v8 => k_is)
      (case u45_v8 => k_is)
      (case u46_v8 => k_is)
      (case u47_v8 => k_is)
      (case u48_v8 => k_is)
      (case u49_v8 => k_is)
      (case u50_v8 => k_is)
      (case u51_v8 => k_is)
      (case u52_v8 => first | rfl | decide +kernel)
      (case u53_v8 => k_is)
      (case u54_v8 => k_is)
      (case u55_v8 => k_is)
      (case u56_v8 => k_is)
      (case u57_v8 => k_is)
      (case u58_v8 => k_is)
      (case u59_v8 => k_is)
      (case u60_v8 => k_is)
      (case u61_v8 => k_is)
      (case u62_v8 => first | rfl | decide +kernel))
    (case hh_v9 =>
      refine' (EV.xqb_of ?u1_v9 (EV.tab1_cons ?u2_v9 ⟨?u3_v9, ?u4_v9, ?u5_v9, ?u6_v9, ?u7_v9, ?u8_v9, ?u9_v9, ?u10_v9⟩ ?u11_v9 (EV.tab1_cons ?u12_v9 ⟨?u13_v9, ?u14_v9, ?u15_v9, ?u16_v9, ?u17_v9, ?u18_v9, ?u19_v9, ?u20_v9⟩ ?u21_v9 (EV.tab1_cons ?u22_v9 ⟨?u23_v9, ?u24_v9, ?u25_v9, ?u26_v9, ?u27_v9, ?u28_v9, ?u29_v9, ?u30_v9⟩ ?u31_v9 (EV.tab1_cons ?u32_v9 ⟨?u33_v9, ?u34_v9, ?u35_v9, ?u36_v9, ?u37_v9, ?u38_v9, ?u39_v9, ?u40_v9⟩ ?u41_v9 (EV.tab1_cons ?u42_v9 ⟨?u43_v9, ?u44_v9, ?u45_v9, ?u46_v9, ?u47_v9, ?u48_v9, ?u49_v9, ?u50_v9⟩ ?u51_v9 (EV.tab1_cons ?u52_v9 ⟨?u53_v9, ?u54_v9, ?u55_v9, ?u56_v9, ?u57_v9, ?u58_v9, ?u59_v9, ?u60_v9⟩ ?u61_v9 EV.tab1_nil)))))))
      (case u1_v9 => first | rfl | decide +kernel)
      (case u2_v9 => k_is)
      (case u3_v9 => k_is)
      (case u4_v9 => k_is)
      (case u5_v9 => k_is)
      (case u6_v9 => k_is)
      (case u7_v9 => k_is)
      (case u8_v9 => k_is)
      (case u9_v9 => k_is)
      (case u10_v9 => k_is)
      (case u11_v9 => first | rfl | decide +kernel)
      (case u12_v9 => k_is)
      (case u13_v9 => k_is)
      (case u14_v9 => k_is)
      (case u15_v9 => k_is)
      (case u16_v9 => k_is)
      (case u17_v9 => k_is)
      (case u18_v9 => k_is)
      (case u19_v9 => k_is)
      (case u20_v9 => k_is)
      (case u21_v9 => first | rfl | decide +kernel)
      (case u22_v9 => k_is)
      (case u23_v9 => k_is)
      (case u24_v9 => k_is)
      (case u25_v9 => k_is)
      (case u26_v9 => k_is)
      (case u27_v9 => k_is)
      (case u28_v9 => k_is)
      (case u29_v9 => k_is)
      (case u30_v9 => k_is)
      (case u31_v9 => first | rfl | decide +kernel)
      (case u32_v9 => k_is)
      (case u33_v9 => k_is)
      (case u34_v9 => k_is)
      (case u35_v9 => k_is)
      (case u36_v9 => k_is)
      (case u37_v9 => k_is)
      (case u38_v9 => k_is)
      (case u39_v9 => k_is)
      (case u40_v9 => k_is)
      (case u41_v9 => first | rfl | decide +kernel)
      (case u42_v9 => k_is)
      (case u43_v9 => k_is)
      (case u44_v9 => k_is)
      (case u45_v9 => k_is)
      (case u46_v9 => k_is)
      (case u47_v9 => k_is)
      (case u48_v9 => k_is)
      (case u49_v9 => k_is)
      (case u50_v9 => k_is)
      (case u51_v9 => first | rfl | decide +kernel)
      (case u52_v9 => k_is)
      (case u53_v9 => k_is)
      (case u54_v9 => k_is)
      (case u55_v9 => k_is)
      (case u56_v9 => k_is)
      (case u57_v9 => k_is)
      (case u58_v9 => k_is)
      (case u59_v9 => k_is)
      (case u60_v9 => k_is)
      (case u61_v9 => first | rfl | decide +kernel))
    (case hh_v10 =>
      refine' (EV.xqb_of ?u1_v10 (EV.tab1_cons ?u2_v10 ⟨?u3_v10, ?u4_v10, ?u5_v10, ?u6_v10, ?u7_v10, ?u8_v10, ?u9_v10, ?u10_v10⟩ ?u11_v10 (EV.tab1_cons ?u12_v10 ⟨?u13_v10, ?u14_v10, ?u15_v10, ?u16_v10, ?u17_v10, ?u18_v10, ?u19_v10, ?u20_v10⟩ ?u21_v10 (EV.tab1_cons ?u22_v10 ⟨?u23_v10, ?u24_v10, ?u25_v10, ?u26_v10, ?u27_v10, ?u28_v10, ?u29_v10, ?u30_v10⟩ ?u31_v10 (EV.tab1_cons ?u32_v10 ⟨?u33_v10, ?u34_v10, ?u35_v10, ?u36_v10, ?u37_v10, ?u38_v10, ?u39_v10, ?u40_v10⟩ ?u41_v10 (EV.tab1_cons ?u42_v10 ⟨?u43_v10, ?u44_v10, ?u45_v10, ?u46_v10, ?u47_v10, ?u48_v10, ?u49_v10, ?u50_v10⟩ ?u51_v10 (EV.tab1_cons ?u52_v10 ⟨?u53_v10, ?u54_v10, ?u55_v10, ?u56_v10, ?u57_v10, ?u58_v10, ?u59_v10, ?u60_v10⟩ ?u61_v10 EV.tab1_nil)))))))
      (case u1_v10 => first | rfl | decide +kernel)
      (case u2_v10 => k_is)
      (case u3_v10 => k_is)
      (case u4_v10 => k_is)
      (case u5_v10 => k_is)
      (case u6_v10 => k_is)
      (case u7_v10 => k_is)
      (case u8_v10 => k_is)
      (case u9_v10 => k_is)
      (case u10_v10 => k_is)
      (case u11_v10 => first | rfl | decide +kernel)
      (case u12_v10 => k_is)
      (case u13_v10 => k_is)
      (case u14_v10 => k_is)
      (case u15_v10 => k_is)
      (case u16_v10 => k_is)
      (case u17_v10 => k_is)
      (case u18_v10 => k_is)
      (case u19_v10 => k_is)
      (case u20_v10 => k_is)
      (case u21_v10 => first | rfl | decide +kernel)
      (case u22_v10 => k_is)
      (case u23_v10 => k_is)
      (case u24_v10 => k_is)
      (case u25_v10 => k_is)
      (case u26_v10 => k_is)
      (case u27_v10 => k_is)
      (case u28_v10 => k_is)
      (case u29_v10 => k_is)
      (case u30_v10 => k_is)
      (case u31_v10 => first | rfl | decide +kernel)
      (case u32_v10 => k_is)
      (case u33_v10 => k_is)
      (case u34_v10 => k_is)
      (case u35_v10 => k_is)
      (case u36_v10 => k_is)
      (case u37_v10 => k_is)
      (case u38_v10 => k_is)
      (case u39_v10 => k_is)
      (case u40_v10 => k_is)
      (case u41_v10 => first | rfl | decide +kernel)
      (case u42_v10 => k_is)
      (case u43_v10 => k_is)
      (case u44_v10 => k_is)
      (case u45_v10 => k_is)
      (case u46_v10 => k_is)
      (case u47_v10 => k_is)
      (case u48_v10 => k_is)
      (case u49_v10 => k_is)
      (case u50_v10 => k_is)
      (case u51_v10 => first | rfl | decide +kernel)
      (case u52_v10 => k_is)
      (case u53_v10 => k_is)
      (case u54_v10 => k_is)
      (case u55_v10 => k_is)
      (case u56_v10 => k_is)
      (case u57_v10 => k_is)
      (case u58_v10 => k_is)
      (case u59_v10 => k_is)
      (case u60_v10 => k_is)
      (case u61_v10 => first | rfl | decide +kernel))
    (case hh_v11 =>
      refine' (EV.xt3_of KX G ?u1_v11 ?u2_v11 ?u3_v11 (EV.hitL_cons ?u4_v11 ?u5_v11 EV.hitL_nil))
      (case u1_v11 => k_is)
      (case u2_v11 => k_is)
      (case u3_v11 => k_is)
      (case u4_v11 => k_is)
      (case u5_v11 => kts_exm))

