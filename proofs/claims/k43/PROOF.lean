import PyProof.Rows.All
import Wide.All
import OpenK.AllK
import Wide.FinOn
import Lean
import PyProof.EqAt
import PyProof.EqKinds
import PyProof.TupleCall
import PyProof.NeKinds
import PyProof.DictUpdate
import PyProof.AttrMissHeap
import KE.KDictOf
import PyProof.TupleIter
import PyProof.WalksEnum
import PyProof.EnumMake
import PyProof.Rows.EnumRows
import PyProof.Rows.MaxTwoN
import PySem.Challenge.RW_callmill_k43_nodes_that_are_come_to
set_option Elab.async false
set_option linter.all false
set_option maxRecDepth 100000
set_option maxHeartbeats 4000000
namespace L2
open PySem PySem.Spec PyProof.Rows
abbrev Key := Sum Int Str
def keyIs : Key → Value → Bool
  | .inl k, v => Value.isInt k v
  | .inr x, v => Value.isStrOf x v
def keyH (w : World) : Key → Int
  | .inl k => hashInt k
  | .inr x => hashStr w x
theorem keyIs_shape : ∀ {k : Key} {v : Value}, keyIs k v = true → (∃ i t, k = Sum.inl i ∧ v = Value.int i t) ∨ (∃ x t, k = Sum.inr x ∧ v = Value.str x t)
  | .inl i, v, h => by
    obtain ⟨t, e⟩ := Value.isInt_shape (k := i) (v := v) h
    exact .inl ⟨i, t, rfl, e⟩
  | .inr x, v, h => by
    obtain ⟨t, e⟩ := Value.isStrOf_shape (x := x) (v := v) h
    exact .inr ⟨x, t, rfl, e⟩
theorem keyIs_int (i : Int) (t : Tok) : keyIs (.inl i) (.int i t) = true := by simp [keyIs, Value.isInt]
theorem keyIs_str (x : Str) (t : Tok) : keyIs (.inr x) (.str x t) = true := by simp [keyIs, Value.isStrOf]
theorem key_ll (a b : Int) : decide ((Sum.inl a : Key) = Sum.inl b) = (a == b) := by
  by_cases e : a = b
  · subst e; simp
  · have h : ¬ (Sum.inl a : Key) = Sum.inl b := fun q => e (Sum.inl.inj q)
    rw [decide_eq_false h]
    exact (beq_eq_false_iff_ne.mpr e).symm
theorem key_rr (a b : Str) : decide ((Sum.inr a : Key) = Sum.inr b) = decide (a = b) := by
  by_cases e : a = b
  · subst e; simp
  · have h : ¬ (Sum.inr a : Key) = Sum.inr b := fun q => e (Sum.inr.inj q)
    rw [decide_eq_false h, decide_eq_false e]
theorem key_lr (a : Int) (b : Str) : decide ((Sum.inl a : Key) = Sum.inr b) = false := decide_eq_false (fun q => nomatch q)
theorem key_rl (a : Str) (b : Int) : decide ((Sum.inr a : Key) = Sum.inl b) = false := decide_eq_false (fun q => nomatch q)
def mixKind (prog : Program) (w : World) : PySem.KeyKind prog w Key where
  is := keyIs
  hash := keyH w
  inj := fun v a b ha hb => by
    rcases keyIs_shape ha with ⟨i, t, rfl, rfl⟩ | ⟨x, t, rfl, rfl⟩
    · rcases keyIs_shape hb with ⟨j, u, rfl, e⟩ | ⟨y, u, rfl, e⟩
      · injection e with e1 _; rw [e1]
      · exact nomatch e
    · rcases keyIs_shape hb with ⟨j, u, rfl, e⟩ | ⟨y, u, rfl, e⟩
      · exact nomatch e
      · injection e with e1 _; rw [e1]
  byValue := fun k v h => by
    rcases keyIs_shape h with ⟨i, t, rfl, rfl⟩ | ⟨x, t, rfl, rfl⟩ <;> rfl
  pyHash := fun hv h => by
    rcases keyIs_shape hv with ⟨i, t, rfl, rfl⟩ | ⟨x, t, rfl, rfl⟩
    · exact wpAny_pyHash_int h
    · exact wpAny_pyHash_str h
  eqBool := fun hu hv h => by
    rcases keyIs_shape hu with ⟨i, t, rfl, rfl⟩ | ⟨x, t, rfl, rfl⟩
    · rcases keyIs_shape hv with ⟨j, u, rfl, rfl⟩ | ⟨y, u, rfl, rfl⟩
      · rw [key_ll] at h; exact wpAny_eqBool_int h
      · rw [key_lr] at h; exact SeqAt.EqAt.int_str i t y u _ _ _ _ h
    · rcases keyIs_shape hv with ⟨j, u, rfl, rfl⟩ | ⟨y, u, rfl, rfl⟩
      · rw [key_rl] at h; exact SeqAt.EqAt.str_int x t j u _ _ _ _ h
      · rw [key_rr] at h; exact wpAny_eqBool_str h
  «strs» := fun k x t v h => by
    rcases keyIs_shape h with ⟨i, u, rfl, e⟩ | ⟨y, u, rfl, e⟩
    · exact nomatch e
    · injection e with e1 _
      subst e1
      cases v <;> rfl
theorem mixKind_is (prog : Program) (w : World) (k : Key) (v : Value) : (mixKind prog w).is k v = keyIs k v := rfl
theorem mixKind_int (prog : Program) (w : World) (i : Int) (t : Tok) : (mixKind prog w).is (.inl i) (.int i t) = true := keyIs_int i t
theorem mixKind_str (prog : Program) (w : World) (x : Str) (t : Tok) : (mixKind prog w).is (.inr x) (.str x t) = true := keyIs_str x t
end L2
namespace L2
open PySem PySem.Spec PyProof.Rows
inductive V where
  | non | bl (b : Bool) | int (i : Int) | str (x : Str) | byt (b : Array UInt8) | flt (b : UInt64) | ref (a : Addr) | ty (n : String)
  deriving DecidableEq
def RelV : V → Value → Prop
  | .non, u => u = Value.none
  | .bl b, u => u = Value.bool b
  | .int i, u => ∃ t, u = Value.int i t
  | .str x, u => ∃ t, u = Value.str x t
  | .byt b, u => ∃ t, u = Value.bytes b t
  | .flt b, u => ∃ t, u = Value.float b t
  | .ref a, u => u = Value.ref a
  | .ty n, u => u = Value.type n
abbrev Vals : List V → List Value → Prop := Paired RelV
theorem Vals.length {xs : List V} {us : List Value} (r : Vals xs us) : xs.length = us.length := Paired.length r
theorem Vals.get : ∀ {xs : List V} {us : List Value} {i : Nat} {x : V}, Vals xs us → xs[i]? = some x → ∃ u, us[i]? = some u ∧ RelV x u
  | _, _, _, _, .nil, e => by simp at e
  | _, _, 0, _, .cons r _, e => by simp at e; subst e; exact ⟨_, rfl, r⟩
  | _, _, i + 1, x, .cons _ t, e => by
    obtain ⟨u, h1, h2⟩ := Vals.get (i := i) (x := x) t (by simpa using e)
    exact ⟨u, by simpa using h1, h2⟩
theorem Vals.set {x : V} {u : Value} (r : RelV x u) : ∀ {xs : List V} {us : List Value} (i : Nat), Vals xs us → Vals (xs.set i x) (us.set i u)
  | _, _, _, .nil => .nil
  | _, _, 0, .cons _ t => .cons r t
  | _, _, i + 1, .cons q t => .cons q (Vals.set r i t)
theorem Vals.append : ∀ {xs ys : List V} {us ws : List Value}, Vals xs us → Vals ys ws → Vals (xs ++ ys) (us ++ ws)
  | _, _, _, _, .nil, s => s
  | _, _, _, _, .cons r t, s => .cons r (Vals.append t s)
theorem Vals.take : ∀ {xs : List V} {us : List Value} (n : Nat), Vals xs us → Vals (xs.take n) (us.take n)
  | _, _, 0, _ => .nil
  | _, _, _ + 1, .nil => .nil
  | _, _, n + 1, .cons r t => .cons r (Vals.take n t)
theorem Vals.drop : ∀ {xs : List V} {us : List Value} (n : Nat), Vals xs us → Vals (xs.drop n) (us.drop n)
  | _, _, 0, r => r
  | _, _, _ + 1, .nil => .nil
  | _, _, n + 1, .cons _ t => Vals.drop n t
theorem Vals.none_of : ∀ {xs : List V} {us : List Value} {i : Nat}, Vals xs us → xs[i]? = none → us[i]? = none := fun {xs us i} r e => by
  have h1 := r.length
  have h2 : xs.length ≤ i := List.getElem?_eq_none_iff.mp e
  exact List.getElem?_eq_none_iff.mpr (by omega)
def RelO : Option V → Option Value → Prop
  | some v, some u => RelV v u
  | none, none => True
  | _, _ => False
def KV {κ : Type} : List (κ × V) → List (κ × Value) → Prop := Paired fun (p : κ × V) (q : κ × Value) => p.1 = q.1 ∧ RelV p.2 q.2
def kV : Key → V
  | .inl i => .int i
  | .inr x => .str x
inductive HO where
  | lst (xs : List V)
  | tup (xs : List V)
  | dK (kvs : List (Key × V)) | dT (kvs : List (List Key × V))
  | set (S : Int → Bool) (n : Nat)
  | ins (C dx : Addr) (fs : List (Str × V))
  | own (x : Addr)
  | xd (fs : List (Str × V))
  | met (f x : Addr)
  | rng (lo hi : Int)
  | frz (o : Obj) (u : HO)
  | tbl (ps : Array Value)
  | ext (φ : Heap → Prop)
abbrev Hp := Addr → Option HO
def upd (H : Hp) (a : Addr) (o : HO) : Hp := fun b => if b = a then some o else H b
theorem upd_same {H : Hp} {a : Addr} {o : HO} : upd H a o a = some o := by unfold upd; rw [if_pos rfl]
theorem upd_ne {H : Hp} {a b : Addr} {o : HO} (h : b ≠ a) : upd H a o b = H b := by unfold upd; rw [if_neg h]
theorem upd_upd {H : Hp} {a : Addr} {o u : HO} : upd (upd H a o) a u = upd H a u := by
  funext b; unfold upd; split <;> rfl
theorem ne_of {H : Hp} {a b : Addr} {o u : HO} (h : H a = some o) (h' : H b = some u) (d : o ≠ u) : a ≠ b := by
  intro e; subst e; rw [h] at h'; exact d (Option.some.inj h')
theorem ne_of_none {H : Hp} {a b : Addr} {o : HO} (h : H a = some o) (h' : H b = none) : a ≠ b := by
  intro e; subst e; rw [h] at h'; cases h'
section
variable (P : Program) (w : World)
def ObjOk (H : Hp) (h : Heap) (a : Addr) : HO → Prop
  | .lst xs => xs.length ≤ sizeLine ∧ ∃ (its : List Value) (n : Nat), Vals xs its ∧ h.get? a = some { cls := .type "list", data := .seq its.toArray n }
  | .tup xs => xs.length ≤ sizeLine ∧ ∃ its : List Value, Vals xs its ∧ IsTup h a its.toArray
  | .dK kvs => kvs.length ≤ sizeLine ∧ (a == sysModules) = false ∧ ∃ vs, KV kvs vs ∧ h.DictOf (mixKind P w) a vs
  | .dT kvs => kvs.length ≤ sizeLine ∧ (a == sysModules) = false ∧ ∃ xs : List (List Key × Addr × Value),
      Paired (fun (p : List Key × V) (q : List Key × Addr × Value) => p.1 = q.1 ∧ H q.2.1 = some (.tup (p.1.map kV)) ∧ RelV p.2 q.2.2) kvs xs ∧
      ∃ o es ep, h.get? a = some o ∧ o.ExactDict ∧ o.data = .dict es ep ∧ es.toList = xs.map (entryOfKey (tupleKind (mixKind P w))) ∧ (xs.map (·.1)).Nodup
  | .set S n => h.SetOf (intKind P w) a S n
  | .ins C dx fs => H dx = some (.own a) ∧ fs.length ≤ 1000 ∧ dx ≠ a ∧ h.get? a = some (PySem.W.instObj C dx) ∧
      ∃ mA, h.Ns1 dx mA ∧ (∀ f, RelO (fs.lookup f) (mA f)) ∧ PySem.Within mA (fs.map (·.1))
  | .own _ => ∃ o, h.get? a = some o
  | .xd fs => ∃ mA, h.Ns1 a mA ∧ ∀ f, RelO (fs.lookup f) (mA f)
  | .rng lo hi => ∃ t u v, h.get? a = some { cls := .type "range", data := .fields #[.int lo t, .int hi u, .int 1 v] }
  | .frz o u => h.get? a = some o ∧ ObjOk H h a u
  | .tbl ps => h.get? a = some { cls := .none, data := .fields ps }
  | .met f x => h.get? a = some (PySem.W.methodObj (.ref f) (.ref x))
  | .ext φ => φ h ∧ (∃ o, h.get? a = some o) ∧ ∀ h1 h2 : Heap, φ h1 → (∀ o, h1.get? a = some o → h2.get? a = some o) → φ h2
def HOk (H : Hp) (h : Heap) : Prop := ∀ a o, H a = some o → ObjOk P w H h a o
end
section
variable {P : Program} {w : World} {H H' : Hp} {h h' : Heap} {a : Addr} {o : HO}
theorem ObjOk.lt (x : ObjOk P w H h a o) : a < h.objs.size := by
  cases o with
  | lst xs => obtain ⟨_, _, _, _, e⟩ := x; exact Heap.lt_size e
  | tup xs => obtain ⟨_, _, _, p⟩ := x; exact p.lt
  | dK kvs => obtain ⟨_, _, _, _, o, _, _, e, _⟩ := x; exact Heap.lt_size e
  | dT kvs => obtain ⟨_, _, _, _, o, _, _, e, _⟩ := x; exact Heap.lt_size e
  | set S n => obtain ⟨o, _, _, _, e, _⟩ := x; exact Heap.lt_size e
  | ins C dx fs => obtain ⟨_, _, _, e, _⟩ := x; exact Heap.lt_size e
  | own y => obtain ⟨_, e⟩ := x; exact Heap.lt_size e
  | xd fs => obtain ⟨_, ⟨_, _, _, e, _⟩, _⟩ := x; exact Heap.lt_size e
  | rng lo hi => obtain ⟨_, _, _, e⟩ := x; exact Heap.lt_size e
  | frz ob u => obtain ⟨e, _⟩ := x; exact Heap.lt_size e
  | tbl ps => exact Heap.lt_size (show h.get? a = some _ from x)
  | met f y => exact Heap.lt_size (show h.get? a = some _ from x)
  | ext φ => obtain ⟨_, ⟨_, e⟩, _⟩ := x; exact Heap.lt_size e
theorem Paired.mapP {α β : Type} {F G : α → β → Prop} : ∀ {l₁ : List α} {l₂ : List β}, Paired F l₁ l₂ → (∀ a b, F a b → G a b) → Paired G l₁ l₂
  | _, _, .nil, _ => .nil
  | _, _, .cons r t, f => .cons (f _ _ r) (Paired.mapP t f)
theorem Paired.imp' {α β : Type} {F G : α → β → Prop} (f : ∀ a b, F a b → G a b) {l₁ : List α} {l₂ : List β} (r : Paired F l₁ l₂) : Paired G l₁ l₂ := Paired.mapP r f
theorem ObjOk.stay (x : ObjOk P w H h a o) (k : ∀ b u, (b = a ∨ H b = some (.own a)) → h.get? b = some u → h'.get? b = some u)
    (ho : ∀ b, H b = some (.own a) → H' b = some (.own a)) (ht : ∀ b xs, H b = some (.tup xs) → H' b = some (.tup xs)) : ObjOk P w H' h' a o := by
  induction o with
  | lst xs => obtain ⟨z, its, n, r, e⟩ := x; exact ⟨z, its, n, r, k _ _ (.inl rfl) e⟩
  | tup xs => obtain ⟨z, its, r, ob, e, c⟩ := x; exact ⟨z, its, r, ob, k _ _ (.inl rfl) e, c⟩
  | dK kvs => obtain ⟨z, y, vs, r, ob, es, ep, e, c⟩ := x; exact ⟨z, y, vs, r, ob, es, ep, k _ _ (.inl rfl) e, c⟩
  | dT kvs =>
    obtain ⟨z, y, xs, r, ob, es, ep, e, c⟩ := x
    exact ⟨z, y, xs, Paired.mapP r fun p q z => ⟨z.1, ht _ _ z.2.1, z.2.2⟩, ob, es, ep, k _ _ (.inl rfl) e, c⟩
  | set S n => obtain ⟨ob, es, ep, t, e, c⟩ := x; exact ⟨ob, es, ep, t, k _ _ (.inl rfl) e, c⟩
  | ins C dx fs =>
    obtain ⟨d, z, ne, e, mA, ⟨od, es, ep, e2, c⟩, r⟩ := x
    exact ⟨ho _ d, z, ne, k _ _ (.inl rfl) e, mA, ⟨od, es, ep, k _ _ (.inr d) e2, c⟩, r⟩
  | own y => obtain ⟨ob, e⟩ := x; exact ⟨ob, k _ _ (.inl rfl) e⟩
  | xd fs => obtain ⟨mA, ⟨od, es, ep, e, c⟩, r⟩ := x; exact ⟨mA, ⟨od, es, ep, k _ _ (.inl rfl) e, c⟩, r⟩
  | rng lo hi => obtain ⟨t, u, v, e⟩ := x; exact ⟨t, u, v, k _ _ (.inl rfl) e⟩
  | frz ob u ih => obtain ⟨e, q⟩ := x; exact ⟨k _ _ (.inl rfl) e, ih q⟩
  | tbl ps =>
    have e : h.get? a = some { cls := .none, data := .fields ps } := x
    show h'.get? a = some { cls := .none, data := .fields ps }
    exact k a _ (.inl rfl) e
  | met f y =>
    have e : h.get? a = some (PySem.W.methodObj (.ref f) (.ref y)) := x
    show h'.get? a = some (PySem.W.methodObj (.ref f) (.ref y))
    exact k a _ (.inl rfl) e
  | ext φ => obtain ⟨p, ⟨o, e⟩, st⟩ := x; exact ⟨st _ _ p fun o q => k _ _ (.inl rfl) q, ⟨o, k _ _ (.inl rfl) e⟩, st⟩
theorem HOk.lt (x : HOk P w H h) (e : H a = some o) : a < h.objs.size := (x a o e).lt
theorem HOk.fresh (x : HOk P w H h) (e : h.objs.size ≤ a) : H a = none := by
  cases q : H a with
  | none => rfl
  | some u => exact absurd (Nat.lt_of_lt_of_le (x.lt q) e) (Nat.lt_irrefl _)
theorem HOk.kept (x : HOk P w H h) (k : ∀ b u, h.get? b = some u → h'.get? b = some u) : HOk P w H h' := fun a o e =>
  (x a o e).stay (fun b u _ q => k b u q) (fun _ q => q) fun _ _ q => q
theorem HOk.laid (x : HOk P w H h) (k : ∀ b u, h.get? b = some u → h'.get? b = some u) (hp : h.objs.size ≤ a) (new : ObjOk P w (upd H a o) h' a o) : HOk P w (upd H a o) h' := fun b u e => by
  have hn := x.fresh hp
  by_cases hb : b = a
  · subst hb; rw [upd_same] at e; cases e; exact new
  · rw [upd_ne hb] at e
    exact (x b u e).stay (fun c v _ q => k c v q) (fun c q => by rw [upd_ne (ne_of_none q hn)]; exact q) fun c xs q => by rw [upd_ne (ne_of_none q hn)]; exact q
end
def Rd (H : Hp) (a : Addr) (u : HO) : Prop := H a = some u ∨ ∃ o, H a = some (.frz o u)
theorem Rd.of {H : Hp} {a : Addr} {u : HO} (h : H a = some u) : Rd H a u := .inl h
theorem Rd.ok {P : Program} {w : World} {H : Hp} {h : Heap} {a : Addr} {u : HO} (r : Rd H a u) (x : HOk P w H h) : ObjOk P w H h a u := by
  rcases r with r | ⟨o, r⟩
  · exact x a u r
  · obtain ⟨_, q⟩ := x a _ r
    exact q
def Mut : Option HO → Prop
  | some (.lst _) => True
  | some (.dK _) => True
  | some (.dT _) => True
  | some (.set _ _) => True
  | some (.ins _ _ _) => True
  | some (.ext _) => True
  | _ => False
section
variable {P : Program} {w : World} {H : Hp} {h h' : Heap} {x e : Addr} {o' : HO}
theorem HOk.write (ok : HOk P w H h) (mu : Mut (H x)) (he : e = x ∨ H e = some (.own x)) (k : ∀ b u, b ≠ e → h.get? b = some u → h'.get? b = some u) (heo : ∃ u, h'.get? e = some u)
    (new : ObjOk P w (upd H x o') h' x o') : HOk P w (upd H x o') h' := fun b u q => by
  have nown : ∀ c y, H c = some (.own y) → c ≠ x := fun c y r z => by subst z; rw [r] at mu; exact mu
  have ntup : ∀ c xs, H c = some (.tup xs) → c ≠ x := fun c xs r z => by subst z; rw [r] at mu; exact mu
  by_cases hb : b = x
  · subst hb; rw [upd_same] at q; cases q; exact new
  · rw [upd_ne hb] at q
    by_cases hbe : b = e
    · have q' : H b = some (.own x) := by
        rcases he with z | z
        · exact absurd (hbe.trans z) hb
        · rw [hbe]; exact z
      rw [q] at q'; cases q'
      obtain ⟨v, hv⟩ := heo
      exact ⟨v, by rw [hbe]; exact hv⟩
    · refine (ok b u q).stay (fun c v hc r => k c v ?_ r) (fun c r => by rw [upd_ne (nown c b r)]; exact r) fun c xs r => by rw [upd_ne (ntup c xs r)]; exact r
      rcases hc with rfl | hc
      · exact hbe
      · rintro rfl
        rcases he with z | z
        · exact nown c b hc z
        · rw [hc] at z; cases z; exact hb rfl
end
structure Un (fs ex : List Addr) (H H' : Hp) (h h' : Heap) : Prop where
  keep : ∀ b o, h.get? b = some o → H b = none → b ∉ fs → b ∉ ex → h'.get? b = some o
  slot : ∀ b o, h.get? b = some o → H b = none → b ∈ fs → b ∉ ex → ∃ sl, h'.get? b = some { o with slots := sl }
  free : ∀ b o, h.get? b = some o → H b = none → b ∉ ex → H' b = none
  there : ∀ b o, h.get? b = some o → b ∉ ex → ∃ o', h'.get? b = some o'
  tups : ∀ b xs, H b = some (.tup xs) → H' b = some (.tup xs)
  frzs : ∀ b o u, H b = some (.frz o u) → H' b = some (.frz o u)
  tbls : ∀ b ps, H b = some (.tbl ps) → ∃ more, H' b = some (.tbl (ps ++ more))
section
variable {fs fs' ex ex' : List Addr} {H H1 H2 : Hp} {h h1 h2 h' : Heap} {a x e : Addr} {o : HO}
theorem Un.any (u : Un fs ex H H1 h h1) {b : Addr} {ob : Obj} (q : h.get? b = some ob) (n : H b = none) (hx : b ∉ ex) : ∃ sl, h1.get? b = some { ob with slots := sl } := by
  by_cases hb : b ∈ fs
  · exact u.slot b ob q n hb hx
  · exact ⟨ob.slots, u.keep b ob q n hb hx⟩
theorem Un.trans (a : Un fs ex H H1 h h1) (b : Un fs ex H1 H2 h1 h2) : Un fs ex H H2 h h2 where
  keep := fun c ob q n hc hx => b.keep c ob (a.keep c ob q n hc hx) (a.free c ob q n hx) hc hx
  slot := fun c ob q n hc hx => by
    obtain ⟨sl, e1⟩ := a.slot c ob q n hc hx
    obtain ⟨sl', e2⟩ := b.slot c _ e1 (a.free c ob q n hx) hc hx
    exact ⟨sl', e2⟩
  free := fun c ob q n hx => by
    obtain ⟨o', e1⟩ := a.there c ob q hx
    exact b.free c o' e1 (a.free c ob q n hx) hx
  there := fun c ob q hx => by
    obtain ⟨o', e1⟩ := a.there c ob q hx
    exact b.there c o' e1 hx
  tups := fun c xs q => b.tups c xs (a.tups c xs q)
  frzs := fun c ob xs q => b.frzs c ob xs (a.frzs c ob xs q)
  tbls := fun c ps q => by
    obtain ⟨m1, e1⟩ := a.tbls c ps q
    obtain ⟨m2, e2⟩ := b.tbls c _ e1
    exact ⟨m1 ++ m2, by rw [e2, Array.append_assoc]⟩
theorem Un.kept (k : ∀ b u, h.get? b = some u → h'.get? b = some u) : Un fs ex H H h h' :=
  ⟨fun b ob q _ _ _ => k b ob q, fun b ob q _ _ _ => ⟨ob.slots, k b ob q⟩, fun _ _ _ n _ => n, fun b ob q _ => ⟨ob, k b ob q⟩, fun _ _ q => q, fun _ _ _ q => q, fun _ ps q => ⟨#[], by rw [q]; simp⟩⟩
theorem Un.refl : Un fs ex H H h h := Un.kept fun _ _ q => q
theorem Un.laid (k : ∀ b u, h.get? b = some u → h'.get? b = some u) (hp : h.objs.size ≤ a) (hn : H a = none) : Un fs ex H (upd H a o) h h' where
  keep := fun b u q _ _ _ => k b u q
  slot := fun b u q _ _ _ => ⟨u.slots, k b u q⟩
  free := fun b u q n _ => by rw [upd_ne (Nat.ne_of_lt (Nat.lt_of_lt_of_le (Heap.lt_size q) hp))]; exact n
  there := fun b u q _ => ⟨u, k b u q⟩
  tups := fun b xs q => by rw [upd_ne (ne_of_none q hn)]; exact q
  frzs := fun b u xs q => by rw [upd_ne (ne_of_none q hn)]; exact q
  tbls := fun b ps q => ⟨#[], by rw [upd_ne (ne_of_none q hn), q]; simp⟩
theorem Un.write (mu : Mut (H x)) (he : e = x ∨ H e = some (.own x)) (k : ∀ b u, b ≠ e → h.get? b = some u → h'.get? b = some u) (heo : ∃ u, h'.get? e = some u) : Un fs ex H (upd H x o) h h' := by
  have hx : ∀ b, H b = none → b ≠ x := fun b n z => by subst z; rw [n] at mu; exact mu
  have hb : ∀ b, H b = none → b ≠ e := fun b n z => by
    subst z
    rcases he with r | r
    · exact hx b n r
    · rw [n] at r; cases r
  have hm : ∀ b u, H b = some u → ¬ Mut (some u) → b ≠ x := fun b u q nm z => by subst z; rw [q] at mu; exact nm mu
  refine ⟨fun b u q n _ _ => k b u (hb b n) q, fun b u q n _ _ => ⟨u.slots, k b u (hb b n) q⟩, fun b u q n _ => by rw [upd_ne (hx b n)]; exact n, fun b u q _ => ?_,
    fun b xs q => by rw [upd_ne (hm b _ q fun z => z)]; exact q, fun b u xs q => by rw [upd_ne (hm b _ q fun z => z)]; exact q, fun b ps q => ⟨#[], by rw [upd_ne (hm b _ q fun z => z), q]; simp⟩⟩
  by_cases hbe : b = e
  · subst hbe; exact heo
  · exact ⟨u, k b u hbe q⟩
theorem Un.mono (u : Un fs ex H H1 h h1) (hs : ∀ b ∈ fs, b ∈ fs') (hx : ∀ b ∈ ex, b ∈ ex') : Un fs' ex' H H1 h h1 :=
  ⟨fun b ob q n hb he => u.keep b ob q n (fun z => hb (hs b z)) fun z => he (hx b z), fun _ _ q n _ he => u.any q n fun z => he (hx _ z), fun b ob q n he => u.free b ob q n fun z => he (hx b z), fun b ob q he => u.there b ob q fun z => he (hx b z), u.tups, u.frzs, u.tbls⟩
end
def trk (h : Heap) (H : Hp) : List Addr := (List.range h.objs.size).filter fun a => (H a).isSome
def hidT (h : Heap) (H : Hp) : Heap := PySem.W.hideAll h (trk h H)
theorem hidT_size (h : Heap) (H : Hp) : (hidT h H).objs.size = h.objs.size := PySem.W.hideAll_size _ _
theorem hidT_get {h : Heap} {H : Hp} {b : Addr} {o : Obj} (e : h.get? b = some o) (n : H b = none) : (hidT h H).get? b = some o :=
  PySem.W.hideAll_get _ e fun hm => by
    have q : (H b).isSome = true := (List.mem_filter.mp hm).2
    rw [n] at q; simp at q
theorem of_hidT {h : Heap} {H : Hp} {b : Addr} {o : Obj} (e : (hidT h H).get? b = some o) : h.get? b = some o ∧ H b = none := by
  have e' : h.get? b = some o := PySem.W.of_hideAll (trk h H) e
  refine ⟨e', ?_⟩
  cases q : H b with
  | none => rfl
  | some x =>
    have hm : b ∈ trk h H := List.mem_filter.mpr ⟨List.mem_range.mpr (Heap.lt_size e'), by simp [q]⟩
    have z : (hidT h H).get? b = none := PySem.W.hideAll_none (trk h H) hm
    rw [z] at e; cases e
def allNews (g h : Heap) (L : Addr) : List (Addr × Obj) := (List.range h.objs.size).filterMap fun a => if a = L ∨ (g.get? a).isSome = true then none else (h.get? a).map fun o => (a, o)
theorem mem_allNews {g h : Heap} {L a : Addr} {o : Obj} (h1 : a ≠ L) (h2 : g.get? a = none) (h3 : h.get? a = some o) : (a, o) ∈ allNews g h L :=
  List.mem_filterMap.mpr ⟨a, List.mem_range.mpr (Heap.lt_size h3), by simp [h1, h2, h3]⟩
theorem of_mem_allNews {g h : Heap} {L : Addr} {p : Addr × Obj} (hp : p ∈ allNews g h L) : p.1 ≠ L ∧ g.get? p.1 = none ∧ h.get? p.1 = some p.2 := by
  obtain ⟨b, _, e⟩ := List.mem_filterMap.mp hp
  split at e
  · cases e
  · rename_i hn
    cases q : h.get? b with
    | none => rw [q] at e; simp at e
    | some u =>
      rw [q] at e
      simp only [Option.map_some, Option.some.injEq] at e
      subst e
      refine ⟨fun z => hn (.inl z), ?_, q⟩
      show g.get? b = none
      cases r : g.get? b with
      | none => rfl
      | some v => exact (hn (.inr (by simp [r]))).elim
def rest (g h : Heap) (L d : Addr) : List (Addr × Obj) := (allNews g h L).filter fun p => decide (p.1 ≠ d)
theorem rest_ne {g h : Heap} {L d : Addr} : ∀ p ∈ rest g h L d, p.1 ≠ d := fun p hp => of_decide_eq_true (List.mem_filter.mp hp).2
theorem mem_rest {g h : Heap} {L d a : Addr} {o : Obj} (h1 : a ≠ L) (h2 : g.get? a = none) (h3 : h.get? a = some o) (h4 : a ≠ d) : (a, o) ∈ rest g h L d :=
  List.mem_filter.mpr ⟨mem_allNews h1 h2 h3, decide_eq_true h4⟩
theorem news_all {g h : Heap} {L : Addr} : News g L h (allNews g h L) := fun p hp => let ⟨a, b, c⟩ := of_mem_allNews hp; ⟨c, a, b⟩
theorem news_at {g h : Heap} {L d : Addr} {o : Obj} (h1 : d ≠ L) (h2 : g.get? d = none) (h3 : h.get? d = some o) : News g L h ((d, o) :: rest g h L d) := fun p hp => by
  rcases List.mem_cons.mp hp with rfl | hp
  · exact ⟨h3, h1, h2⟩
  · exact news_all p (List.mem_filter.mp hp).1
theorem kept_of_news {g h h' : Heap} {L d : Addr} {m : Str → Option Value} (k : ∀ b o, g.get? b = some o → h.get? b = some o) (F : Fr g L h' m) (N : News g L h' (rest g h L d)) :
    ∀ b o, b ≠ L → b ≠ d → h.get? b = some o → h'.get? b = some o := fun b o h1 h2 e => by
  cases q : g.get? b with
  | some u =>
    have := k b u q
    rw [e] at this; cases this
    exact F.keep b _ q
  | none => exact (N (b, o) (mem_rest h1 q e h2)).1
end L2
namespace L2
open PySem PySem.Spec PyProof.Rows
structure Mod (K : PySem.W.Frag) (mg : Str → Option Value) (base : Heap) : Prop where
  kin : K.In base
  glob : base.Ns mainGlobals mg
  blt : ∃ mb, base.Ns builtinsNs mb ∧ ∀ x : Str, x ≠ "__name__" → mb x = bootBuiltins x
  nolimit : base.NoLimit
structure Cx where
  prog : Program
  w : World
  K : PySem.W.Frag
  mg : Str → Option Value
  base : Heap
  A : Around
  N : List Str
  s₀ : Shared
  H₀ : Hp
  env : Env
  outer : List Env
  stack : List Env
  ex : List Addr
  fn : Str → Bool
  calm : Bool
  pn : List (Addr × Obj)
  xe : Value → Shared → Prop
def frs (l : List Env) : List Addr := l.filterMap (·.frame)
abbrev Cx.fs (X : Cx) : List Addr := frs X.outer
def Vis (sc : Scope) (x : Str) : Prop := sc.names.lookup x = some .local ∨ sc.names.lookup x = some .cell ∨ sc.names.lookup x = some .free
def Loc (sc : Scope) (x : Str) : Prop := sc.names.lookup x = some .local ∨ sc.names.lookup x = some .cell
def Look (env : Env) (h : Heap) (m : Str → Option Value) (x : Str) (u : Value) : Prop :=
  (env.kindOf x = some .local ∧ m x = some u) ∨ ((env.kindOf x = some .cell ∨ env.kindOf x = some .free) ∧ ∃ c, env.cells.lookup x = some c ∧ h.IsCell c (some u))
structure Cx.Ok (X : Cx) : Prop where
  mod : Mod X.K X.mg X.base
  kind : X.env.scope.kind = .function
  glob : X.env.globals = mainGlobals
  blt : X.env.builtins = builtinsNs
  above : X.s₀.heap.objs.size ≤ X.env.locals
  inj : ∀ x y c, X.env.cells.lookup x = some c → X.env.cells.lookup y = some c → x = y
  has : ∀ x, (X.env.kindOf x = some .cell ∨ X.env.kindOf x = some .free) → ∃ c, X.env.cells.lookup x = some c
  cab : ∀ x c, X.fn x = true → X.env.cells.lookup x = some c → X.s₀.heap.objs.size ≤ c
  hd : X.calm = true → X.A.handled = none
  frames : X.A.frames = some X.stack
  stk : X.stack = X.outer ∨ (X.stack = X.env :: X.outer ∧ X.env.frame = some X.env.locals)
  exf : ∀ b ∈ X.ex, b ≠ X.env.locals ∧ ∀ x c, X.env.cells.lookup x = some c → c ≠ b
  bs : ∀ b o, X.base.get? b = some o → X.s₀.heap.get? b = some o ∧ X.H₀ b = none
  bsz : X.base.objs.size ≤ X.s₀.heap.objs.size
  noex : ∀ b o, X.base.get? b = some o → b ∉ X.ex
  exfs : ∀ b ∈ X.ex, b ∉ X.fs
  funs : X.s₀.heap.FunFrames X.base X.outer
  frf : ∀ b ∈ X.fs, X.H₀ b = none
structure Inv (X : Cx) (pins : List (Addr × Obj)) (σ : List (Option V)) (H : Hp) (s : Shared) : Prop where
  ok : X.Ok
  os : s.os = X.s₀.os
  bare : AllBare s.gens
  base : Un X.fs X.ex X.H₀ H X.s₀.heap s.heap
  loc : ∃ m, s.heap.Ns X.env.locals m ∧ ∀ (i : Nat) (x : Str) (v : V), X.N[i]? = some x → σ[i]? = some (some v) → Vis X.env.scope x → ∃ u, RelV v u ∧ Look X.env s.heap m x u
  cell : ∀ x c, X.env.cells.lookup x = some c → ∃ v, s.heap.IsCell c v
  free : H X.env.locals = none
  freeC : ∀ x c, X.env.cells.lookup x = some c → H c = none
  pin : ∀ p ∈ X.pn ++ pins, s.heap.get? p.1 = some p.2 ∧ H p.1 = none ∧ p.1 ≠ X.env.locals ∧ p.1 ∉ X.fs ∧ ∀ v, p.2.data ≠ .cell v
  hok : HOk X.prog X.w H s.heap
  len : σ.length = X.N.length
section
variable {X : Cx} {pins : List (Addr × Obj)} {σ : List (Option V)} {H H' : Hp} {s : Shared} {h' : Heap}
theorem Cx.Ok.nofr (ok : X.Ok) {b : Addr} {o : Obj} (e : X.base.get? b = some o) : b ∉ X.fs := fun hb => by
  have := (ok.funs.mem hb).1
  rw [e] at this; cases this
theorem Inv.bs (I : Inv X pins σ H s) : ∀ b o, X.base.get? b = some o → s.heap.get? b = some o ∧ H b = none := fun b o e =>
  ⟨I.base.keep b o (I.ok.bs b o e).1 (I.ok.bs b o e).2 (I.ok.nofr e) (I.ok.noex b o e), I.base.free b o (I.ok.bs b o e).1 (I.ok.bs b o e).2 (I.ok.noex b o e)⟩
theorem Inv.bk (I : Inv X pins σ H s) : ∀ b o, X.base.get? b = some o → s.heap.get? b = some o := fun b o e => (I.bs b o e).1
theorem Inv.mod (I : Inv X pins σ H s) : Mod X.K X.mg X.base := I.ok.mod
theorem Inv.kIn (I : Inv X pins σ H s) : X.K.In s.heap := I.ok.mod.kin.keeps I.bk
theorem Inv.nolimit (I : Inv X pins σ H s) : s.heap.NoLimit := I.ok.mod.nolimit.keeps I.bk
theorem Inv.fr (I : Inv X pins σ H s) : ∃ m, Fr X.base X.env.locals s.heap m :=
  let ⟨m, hn, _⟩ := I.loc
  ⟨m, hn, I.bk, Nat.le_trans I.ok.bsz I.ok.above⟩
theorem Inv.lt (I : Inv X pins σ H s) : X.env.locals < s.heap.objs.size := let ⟨_, hn, _⟩ := I.loc; hn.lt
theorem Inv.sz (I : Inv X pins σ H s) : X.s₀.heap.objs.size ≤ s.heap.objs.size := Nat.le_trans I.ok.above (Nat.le_of_lt I.lt)
theorem Inv.nofs (I : Inv X pins σ H s) {a : Addr} (h : s.heap.objs.size ≤ a) : a ∉ X.fs := fun hb => by
  obtain ⟨_, o, ho, _⟩ := I.ok.funs.mem hb
  exact absurd (Nat.lt_of_lt_of_le (Heap.lt_size ho) (Nat.le_trans I.sz h)) (Nat.lt_irrefl _)
theorem Inv.cne (I : Inv X pins σ H s) : ∀ x c, X.env.cells.lookup x = some c → c ≠ X.env.locals := fun x c e z => by
  obtain ⟨v, o, ho, hd⟩ := I.cell x c e
  obtain ⟨m, ⟨o', es, ep, ho', hd', _⟩, _⟩ := I.loc
  rw [z, ho'] at ho; cases ho; rw [hd'] at hd; cases hd
theorem Inv.funs (I : Inv X pins σ H s) : s.heap.FunFrames X.base X.outer := by
  have all : ∀ (l : List Env), (∀ b ∈ frs l, b ∈ X.fs) → X.s₀.heap.FunFrames X.base l → s.heap.FunFrames X.base l := by
    intro l
    induction l with
    | nil => intro _ _; trivial
    | cons env r ih =>
      intro hs hl
      obtain ⟨hk, ⟨L, o, hf, hn, ho, hd⟩, hr⟩ := hl
      have hL : L ∈ X.fs := hs L (by unfold frs; rw [List.filterMap_cons, hf]; exact List.mem_cons_self)
      obtain ⟨sl, e⟩ := I.base.slot L o ho (I.ok.frf L hL) hL fun z => I.ok.exfs L z hL
      exact ⟨hk, ⟨L, _, hf, hn, e, hd⟩, ih (fun b hb => hs b (by unfold frs; rw [List.filterMap_cons, hf]; exact List.mem_cons_of_mem _ hb)) hr⟩
  exact all X.outer (fun _ hb => hb) I.ok.funs
theorem Inv.stack (I : Inv X pins σ H s) : s.heap.FunFrames X.base X.stack := by
  rcases I.ok.stk with e | ⟨e, hf⟩
  · rw [e]; exact I.funs
  · rw [e]
    obtain ⟨m, hn, _⟩ := I.loc
    refine .cons (by rw [I.ok.kind]; decide) hf hn ?_ I.funs
    exact Heap.get?_none_of_le (Nat.le_trans I.ok.bsz I.ok.above)
theorem Inv.stkSub (I : Inv X pins σ H s) : ∀ b ∈ frs X.stack, b ∈ X.env.locals :: X.fs := fun b hb => by
  rcases I.ok.stk with e | ⟨e, hf⟩
  · rw [e] at hb; exact List.mem_cons_of_mem _ hb
  · rw [e] at hb
    unfold frs at hb
    rw [List.filterMap_cons, hf] at hb
    exact hb
theorem Inv.stkFree (I : Inv X pins σ H s) : ∀ b ∈ frs X.stack, H b = none := fun b hb => by
  rcases List.mem_cons.mp (I.stkSub b hb) with e | hb
  · rw [e]; exact I.free
  · obtain ⟨_, o, ho, _⟩ := I.ok.funs.mem hb
    exact I.base.free b o ho (I.ok.frf b hb) fun z => I.ok.exfs b z hb
theorem Inv.step {g' : Array GenState} {t' : Nat} {d' : Drawn} {ch : List Addr} (I : Inv X pins σ H s)
    (hch : ∀ b ∈ ch, (b ∈ X.ex ∨ X.s₀.heap.objs.size ≤ b) ∧ b ≠ X.env.locals ∧ (∀ x c, X.env.cells.lookup x = some c → c ≠ b) ∧ ∀ p ∈ X.pn ++ pins, p.1 ≠ b)
    (keep : ∀ b o, b ≠ X.env.locals → b ∉ X.fs → b ∉ ch → s.heap.get? b = some o → H b = none → h'.get? b = some o)
    (slot : ∀ b o, b ≠ X.env.locals → b ∈ X.fs → b ∉ ch → s.heap.get? b = some o → H b = none → ∃ sl, h'.get? b = some { o with slots := sl }) (free : ∀ b o, b ∉ ch → s.heap.get? b = some o → H b = none → H' b = none)
    (there : ∀ b o, b ∉ ch → s.heap.get? b = some o → ∃ o', h'.get? b = some o')
    (tups : ∀ b xs, H b = some (.tup xs) → H' b = some (.tup xs)) (frzs : ∀ b o u, H b = some (.frz o u) → H' b = some (.frz o u)) (tbls : ∀ b ps, H b = some (.tbl ps) → ∃ more, H' b = some (.tbl (ps ++ more)))
    (ns : ∀ m, s.heap.Ns X.env.locals m → h'.Ns X.env.locals m) (hok : HOk X.prog X.w H' h') (hg : AllBare g') :
    Inv X pins σ H' { s with heap := h', gens := g', drawn := d', toks := t' } := by
  have neL : ∀ b o, X.s₀.heap.get? b = some o → b ≠ X.env.locals := fun b o e => Nat.ne_of_lt (Nat.lt_of_lt_of_le (Heap.lt_size e) I.ok.above)
  have neC : ∀ b o, X.s₀.heap.get? b = some o → b ∉ X.ex → b ∉ ch := fun b o e hx hb => by
    rcases (hch b hb).1 with z | z
    · exact hx z
    · exact absurd (Nat.lt_of_lt_of_le (Heap.lt_size e) z) (Nat.lt_irrefl _)
  have cellK : ∀ x c, X.env.cells.lookup x = some c → ∀ v, s.heap.IsCell c v → h'.IsCell c v := fun x c e v ⟨o, ho, hd⟩ => by
    have nch : c ∉ ch := fun z => (hch c z).2.2.1 x c e rfl
    by_cases hc : c ∈ X.fs
    · obtain ⟨sl, q⟩ := slot c o (I.cne x c e) hc nch ho (I.freeC x c e)
      exact ⟨_, q, hd⟩
    · exact ⟨o, keep c o (I.cne x c e) hc nch ho (I.freeC x c e), hd⟩
  refine ⟨I.ok, I.os, hg, ⟨fun b o e n hb hx => ?_, fun b o e n hb hx => ?_, fun b o e n hx => ?_, fun b o e hx => ?_, fun b xs e => tups b xs (I.base.tups b xs e), fun b o xs e => frzs b o xs (I.base.frzs b o xs e), fun b ps e => ?_⟩, ?_, fun x c e => ?_, ?_, fun x c e => ?_, fun p hp => ?_, hok, I.len⟩
  · exact keep b o (neL b o e) hb (neC b o e hx) (I.base.keep b o e n hb hx) (I.base.free b o e n hx)
  · obtain ⟨sl, e1⟩ := I.base.slot b o e n hb hx
    obtain ⟨sl', e2⟩ := slot b _ (neL b o e) hb (neC b o e hx) e1 (I.base.free b o e n hx)
    exact ⟨sl', e2⟩
  · obtain ⟨o', e1⟩ := I.base.there b o e hx
    exact free b o' (neC b o e hx) e1 (I.base.free b o e n hx)
  · obtain ⟨o', e1⟩ := I.base.there b o e hx
    exact there b o' (neC b o e hx) e1
  · obtain ⟨m1, e1⟩ := I.base.tbls b ps e
    obtain ⟨m2, e2⟩ := tbls b _ e1
    exact ⟨m1 ++ m2, by rw [e2, Array.append_assoc]⟩
  · obtain ⟨m, hn, hl⟩ := I.loc
    refine ⟨m, ns m hn, fun i x v e1 e2 e3 => ?_⟩
    obtain ⟨u, r, l⟩ := hl i x v e1 e2 e3
    refine ⟨u, r, ?_⟩
    rcases l with l | ⟨k, c, e, z⟩
    · exact .inl l
    · exact .inr ⟨k, c, e, cellK x c e _ z⟩
  · obtain ⟨v, z⟩ := I.cell x c e
    exact ⟨v, cellK x c e v z⟩
  · obtain ⟨m, ⟨o, _, _, ho, _⟩, _⟩ := I.loc
    exact free _ o (fun z => (hch _ z).2.1 rfl) ho I.free
  · obtain ⟨v, o, ho, hd⟩ := I.cell x c e
    exact free c o (fun z => (hch c z).2.2.1 x c e rfl) ho (I.freeC x c e)
  · obtain ⟨e, n, ne, nf, d⟩ := I.pin p hp
    have nch : p.1 ∉ ch := fun z => (hch p.1 z).2.2.2 p hp rfl
    exact ⟨keep p.1 p.2 ne nf nch e n, free p.1 p.2 nch e n, ne, nf, d⟩
theorem Inv.un {t' : Nat} (I : Inv X pins σ H s) (u : Un X.fs [] H H' s.heap h') (hok : HOk X.prog X.w H' h') : Inv X pins σ H' { s with heap := h', toks := t' } := by
  obtain ⟨m, ⟨o, es, ep, ho, r⟩, _⟩ := id I.loc
  obtain ⟨sl, hL⟩ := u.any ho I.free (by simp)
  exact I.step (g' := s.gens) (d' := s.drawn) (ch := []) (fun _ z => nomatch z) (fun b o _ hb _ e n => u.keep b o e n hb (by simp)) (fun b o _ hb _ e n => u.slot b o e n hb (by simp)) (fun b o _ e n => u.free b o e n (by simp)) (fun b o _ e => u.there b o e (by simp)) u.tups u.frzs u.tbls (fun m' hm => by
    obtain ⟨o', es', ep', ho', r'⟩ := hm
    rw [ho] at ho'; cases ho'
    exact ⟨_, es', ep', hL, r'⟩) hok I.bare
theorem Inv.call {g' : Array GenState} {t' : Nat} {d' : Drawn} {ch : List Addr} (I : Inv X pins σ H s) (u : Un (frs X.stack) ch H H' s.heap h') (hok : HOk X.prog X.w H' h') (hg : AllBare g')
    (hch : ∀ b ∈ ch, (b ∈ X.ex ∨ X.s₀.heap.objs.size ≤ b) ∧ b ≠ X.env.locals ∧ (∀ x c, X.env.cells.lookup x = some c → c ≠ b) ∧ ∀ p ∈ X.pn ++ pins, p.1 ≠ b) :
    Inv X pins σ H' { s with heap := h', gens := g', drawn := d', toks := t' } := by
  obtain ⟨m, ⟨o, es, ep, ho, r⟩, _⟩ := id I.loc
  obtain ⟨sl, hL⟩ := u.any ho I.free fun z => (hch _ z).2.1 rfl
  exact I.step (ch := ch) hch (fun b o hL hb hc e n => u.keep b o e n (fun z => (List.mem_cons.mp (I.stkSub b z)).elim hL hb) hc) (fun b o _ _ hc e n => u.any e n hc) (fun b o hc e n => u.free b o e n hc) (fun b o hc e => u.there b o e hc) u.tups u.frzs u.tbls (fun m' hm => by
    obtain ⟨o', es', ep', ho', r'⟩ := hm
    rw [ho] at ho'; cases ho'
    exact ⟨_, es', ep', hL, r'⟩) hok hg
theorem Inv.turned {t' : Nat} {it : Addr} (I : Inv X pins σ H s) (k : ∀ b o, b ≠ it → s.heap.get? b = some o → h'.get? b = some o) (hn : H it = none) (hL : it ≠ X.env.locals)
    (h1 : it ∈ X.ex ∨ X.s₀.heap.objs.size ≤ it) (h2 : ∀ x c, X.env.cells.lookup x = some c → c ≠ it) (h3 : ∀ p ∈ X.pn ++ pins, p.1 ≠ it) : Inv X pins σ H { s with heap := h', toks := t' } := by
  have nit : ∀ b u, H b = some u → b ≠ it := fun b u e z => by rw [z, hn] at e; cases e
  refine I.step (g' := s.gens) (d' := s.drawn) (ch := [it]) (fun b hb => ?_) (fun b o _ _ hc e _ => k b o (fun z => hc (by simp [z])) e) (fun b o _ _ hc e _ => ⟨o.slots, k b o (fun z => hc (by simp [z])) e⟩) (fun _ _ _ _ n => n)
    (fun b o hc e => ⟨o, k b o (fun z => hc (by simp [z])) e⟩) (fun _ _ e => e) (fun _ _ _ e => e) (fun b ps e => ⟨#[], by rw [e]; simp⟩) (fun m hm => ?_) (fun b u e => ?_) I.bare
  · have e : b = it := by simpa using hb
    subst e
    exact ⟨h1, hL, h2, h3⟩
  · obtain ⟨o, es, ep, ho, r⟩ := hm
    exact ⟨o, es, ep, k _ o (Ne.symm hL) ho, r⟩
  · refine (I.hok b u e).stay (fun c v hc q => k c v ?_ q) (fun _ q => q) fun _ _ q => q
    rcases hc with z | z
    · rw [z]; exact nit b u e
    · exact nit c _ z
theorem Inv.tok (I : Inv X pins σ H s) (t : Nat) : Inv X pins σ H { s with toks := t } := I.un (h' := s.heap) (t' := t) Un.refl I.hok
theorem Inv.kept {t' : Nat} (I : Inv X pins σ H s) (k : ∀ b u, s.heap.get? b = some u → h'.get? b = some u) : Inv X pins σ H { s with heap := h', toks := t' } := I.un (Un.kept k) (I.hok.kept k)
theorem Inv.laid {a : Addr} {o : HO} {t' : Nat} (I : Inv X pins σ H s) (k : ∀ b u, s.heap.get? b = some u → h'.get? b = some u) (hp : s.heap.objs.size ≤ a) (new : ObjOk X.prog X.w (upd H a o) h' a o) :
    Inv X pins σ (upd H a o) { s with heap := h', toks := t' } := I.un (Un.laid k hp (I.hok.fresh hp)) (I.hok.laid k hp new)
theorem Inv.write {x e : Addr} {o : HO} {t' : Nat} (I : Inv X pins σ H s) (mu : Mut (H x)) (he : e = x ∨ H e = some (.own x)) (k : ∀ b u, b ≠ e → s.heap.get? b = some u → h'.get? b = some u) (heo : ∃ u, h'.get? e = some u)
    (new : ObjOk X.prog X.w (upd H x o) h' x o) : Inv X pins σ (upd H x o) { s with heap := h', toks := t' } := I.un (Un.write mu he k heo) (I.hok.write mu he k heo new)
theorem Inv.weak {σ' : List (Option V)} (I : Inv X pins σ H s) (hl : σ'.length = σ.length) (w : ∀ (i : Nat) v, σ'[i]? = some (some v) → σ[i]? = some (some v)) : Inv X pins σ' H s :=
  ⟨I.ok, I.os, I.bare, I.base, let ⟨m, hn, hl'⟩ := I.loc; ⟨m, hn, fun i x v e1 e2 e3 => hl' i x v e1 (w i v e2) e3⟩, I.cell, I.free, I.freeC, I.pin, I.hok, hl.trans I.len⟩
theorem Inv.pins_of {pins' : List (Addr × Obj)} (I : Inv X pins σ H s) (h : ∀ p ∈ pins', s.heap.get? p.1 = some p.2 ∧ H p.1 = none ∧ p.1 ≠ X.env.locals ∧ p.1 ∉ X.fs ∧ ∀ v, p.2.data ≠ .cell v) : Inv X pins' σ H s :=
  ⟨I.ok, I.os, I.bare, I.base, I.loc, I.cell, I.free, I.freeC, fun p hp => (List.mem_append.mp hp).elim (fun z => I.pin p (List.mem_append_left _ z)) (h p), I.hok, I.len⟩
theorem nodup_ix {N : List Str} (hN : N.Nodup) {i j : Nat} {x : Str} (a : N[i]? = some x) (b : N[j]? = some x) : i = j := by
  obtain ⟨h1, e1⟩ := List.getElem?_eq_some_iff.mp a
  obtain ⟨h2, e2⟩ := List.getElem?_eq_some_iff.mp b
  exact (List.getElem_inj hN).mp (e1.trans e2.symm)
theorem store_ok2 {M : Model} {A : Around} {E : Value → Shared → Prop} {i : Nat} {x : Str} {v : V} {u : Value} {Q : Unit → Shared → Prop} (I : Inv X pins σ H s) (hN : X.N.Nodup) (hi : X.N[i]? = some x) (hx : Loc X.env.scope x) (r : RelV v u)
    (h : ∀ s', Inv X pins (σ.set i (some v)) H s' → (∃ a, Heap.SameBut a s.heap s'.heap ∧ (a = X.env.locals ∨ X.env.cells.lookup x = some a)) → Q () s') (hf : X.fn x = true ∨ X.env.scope.names.lookup x = some .local := by first | exact .inl rfl | exact .inr rfl | assumption) : wpAny M A (storeName X.env x u) Q E s := by
  obtain ⟨m, hn, hl⟩ := id I.loc
  have hcls : (X.env.scope.kind == .class || (X.env.scope.kind == .module && X.env.locals != X.env.globals)) = false := by rw [I.ok.kind]; rfl
  have hiσ : i < σ.length := by rw [I.len]; exact (List.getElem?_eq_some_iff.mp hi).1
  have cne := I.cne
  have tracked : ∀ {a : Addr} {h' : Heap}, (∃ o, s.heap.get? a = some o ∧ H a = none) → Heap.SameBut a s.heap h' → HOk X.prog X.w H h' := fun {a h'} ha hs b ob e => by
    obtain ⟨_, _, hfree⟩ := ha
    refine (I.hok b ob e).stay (fun c w' hc q => (hs.2 c ?_).trans q) (fun _ q => q) fun _ _ q => q
    rintro rfl
    rcases hc with rfl | hc
    · rw [hfree] at e; cases e
    · rw [hfree] at hc; cases hc
  rcases hx with hk | hk
  · refine wpAny_storeName_local hk hn (fun h' hn' hs => ?_) hcls
    obtain ⟨oL, _, _, hoL, _⟩ := id hn
    refine h _ ⟨I.ok, I.os, I.bare, ⟨fun b o e n hb hx => ?_, fun b o e n hb hx => ?_, I.base.free, fun b o e hx => ?_, I.base.tups, I.base.frzs, I.base.tbls⟩, ⟨_, hn', fun j y v' e1 e2 e3 => ?_⟩, fun y c e => ?_, I.free, I.freeC, fun p hp => ?_, tracked ⟨oL, hoL, I.free⟩ hs, by simpa using I.len⟩ ⟨_, hs, .inl rfl⟩
    · exact (hs.2 b (Nat.ne_of_lt (Nat.lt_of_lt_of_le (Heap.lt_size e) I.ok.above))).trans (I.base.keep b o e n hb hx)
    · obtain ⟨sl, e1⟩ := I.base.slot b o e n hb hx
      exact ⟨sl, (hs.2 b (Nat.ne_of_lt (Nat.lt_of_lt_of_le (Heap.lt_size e) I.ok.above))).trans e1⟩
    · obtain ⟨o', e1⟩ := I.base.there b o e hx
      exact ⟨o', (hs.2 b (Nat.ne_of_lt (Nat.lt_of_lt_of_le (Heap.lt_size e) I.ok.above))).trans e1⟩
    · by_cases hj : j = i
      · subst hj
        rw [hi] at e1; cases e1
        rw [List.getElem?_set_self hiσ] at e2
        cases e2
        exact ⟨u, r, .inl ⟨hk, by simp⟩⟩
      · rw [List.getElem?_set_ne (Ne.symm hj)] at e2
        obtain ⟨u', r', q⟩ := hl j y v' e1 e2 e3
        refine ⟨u', r', ?_⟩
        rcases q with ⟨k, e⟩ | ⟨k, c, e, z⟩
        · refine .inl ⟨k, ?_⟩
          have : y ≠ x := fun e => hj (nodup_ix hN e1 (e ▸ hi))
          simp [this, e]
        · exact .inr ⟨k, c, e, z.sameBut hs (cne y c e)⟩
    · obtain ⟨w', z⟩ := I.cell y c e
      exact ⟨w', z.sameBut hs (cne y c e)⟩
    · obtain ⟨e, n, ne, nf, d⟩ := I.pin p hp
      exact ⟨(hs.2 p.1 ne).trans e, n, ne, nf, d⟩
  · have hfn : X.fn x = true := by
      rcases hf with z | z
      · exact z
      · rw [z] at hk; cases hk
    obtain ⟨c, hc⟩ := I.ok.has x (.inl hk)
    obtain ⟨w', z⟩ := I.cell x c hc
    refine wpAny_storeName_cell I.ok.kind hk hc z (fun h' hc' hs => ?_)
    obtain ⟨oc, hoc, hocd⟩ := id z
    refine h { s with heap := h' } ⟨I.ok, I.os, I.bare, ⟨fun b o e n hb hx => ?_, fun b o e n hb hx => ?_, I.base.free, fun b o e hx => ?_, I.base.tups, I.base.frzs, I.base.tbls⟩, ⟨m, hn.sameBut hs (Ne.symm (cne x c hc)), fun j y v' e1 e2 e3 => ?_⟩, fun y c' e => ?_, I.free, I.freeC, fun p hp => ?_, tracked ⟨oc, hoc, I.freeC x c hc⟩ hs, by simpa using I.len⟩ ⟨c, hs, .inr hc⟩
    · exact (hs.2 b (Nat.ne_of_lt (Nat.lt_of_lt_of_le (Heap.lt_size e) (I.ok.cab x c hfn hc)))).trans (I.base.keep b o e n hb hx)
    · obtain ⟨sl, e1⟩ := I.base.slot b o e n hb hx
      exact ⟨sl, (hs.2 b (Nat.ne_of_lt (Nat.lt_of_lt_of_le (Heap.lt_size e) (I.ok.cab x c hfn hc)))).trans e1⟩
    · obtain ⟨o', e1⟩ := I.base.there b o e hx
      exact ⟨o', (hs.2 b (Nat.ne_of_lt (Nat.lt_of_lt_of_le (Heap.lt_size e) (I.ok.cab x c hfn hc)))).trans e1⟩
    · by_cases hj : j = i
      · subst hj
        rw [hi] at e1; cases e1
        rw [List.getElem?_set_self hiσ] at e2
        cases e2
        exact ⟨u, r, .inr ⟨.inl hk, c, hc, hc'⟩⟩
      · rw [List.getElem?_set_ne (Ne.symm hj)] at e2
        obtain ⟨u', r', q⟩ := hl j y v' e1 e2 e3
        refine ⟨u', r', ?_⟩
        rcases q with q | ⟨k, c', e, z'⟩
        · exact .inl q
        · refine .inr ⟨k, c', e, z'.sameBut hs ?_⟩
          rintro rfl
          exact hj (nodup_ix hN e1 (I.ok.inj _ _ _ e hc ▸ hi))
    · by_cases hcc : c' = c
      · subst hcc; exact ⟨_, hc'⟩
      · obtain ⟨w2, z2⟩ := I.cell y c' e
        exact ⟨w2, z2.sameBut hs hcc⟩
    · obtain ⟨e, n, ne, nf, d⟩ := I.pin p hp
      refine ⟨(hs.2 p.1 ?_).trans e, n, ne, nf, d⟩
      intro q
      rw [q, hoc] at e
      have q' : oc = p.2 := Option.some.inj e
      exact d w' (by rw [← q']; exact hocd)
theorem store_ok {M : Model} {A : Around} {E : Value → Shared → Prop} {i : Nat} {x : Str} {v : V} {u : Value} {Q : Unit → Shared → Prop} (I : Inv X pins σ H s) (hN : X.N.Nodup) (hi : X.N[i]? = some x) (hx : Loc X.env.scope x) (r : RelV v u)
    (h : ∀ s', Inv X pins (σ.set i (some v)) H s' → Q () s') (hf : X.fn x = true ∨ X.env.scope.names.lookup x = some .local := by first | exact .inl rfl | exact .inr rfl | assumption) : wpAny M A (storeName X.env x u) Q E s :=
  store_ok2 I hN hi hx r (fun s' I' _ => h s' I') hf
theorem Inv.call' {s' : Shared} {ch : List Addr} (I : Inv X pins σ H s) (ho : s'.os = s.os) (u : Un (frs X.stack) ch H H' s.heap s'.heap) (hok : HOk X.prog X.w H' s'.heap) (hg : AllBare s'.gens)
    (hch : ∀ b ∈ ch, (b ∈ X.ex ∨ X.s₀.heap.objs.size ≤ b) ∧ b ≠ X.env.locals ∧ (∀ x c, X.env.cells.lookup x = some c → c ≠ b) ∧ ∀ p ∈ X.pn ++ pins, p.1 ≠ b) : Inv X pins σ H' s' := by
  obtain ⟨h', g', d', t', o'⟩ := s'
  have e : o' = s.os := ho
  subst e
  exact I.call (g' := g') (t' := t') (d' := d') u hok hg hch
end
abbrev XK := Value → Option Addr → Hp → Prop
abbrev St := List (Option V)
abbrev VK := V → Hp → Prop
abbrev TE := St → Hp → VK → Prop
abbrev TT := St → Hp → (Bool → Hp → Prop) → Prop
abbrev TA := St → Hp → (List V → Hp → Prop) → Prop
structure Ends where
  nx : St → Hp → Prop
  rt : VK
  bk : St → Hp → Prop := fun _ _ => False
  ct : St → Hp → Prop := fun _ _ => False
abbrev TS := Ends → St → Hp → Prop
def EP (X : Cx) (pins : List (Addr × Obj)) (σ : St) (Q : VK) (u : Value) (s' : Shared) : Prop := ∃ v H', Inv X pins σ H' s' ∧ RelV v u ∧ Q v H'
def TP (X : Cx) (pins : List (Addr × Obj)) (σ : St) (Q : Bool → Hp → Prop) (b : Bool) (s' : Shared) : Prop := ∃ H', Inv X pins σ H' s' ∧ Q b H'
def AP (X : Cx) (pins : List (Addr × Obj)) (σ : St) (Q : List V → Hp → Prop) (us : List Value) (s' : Shared) : Prop := ∃ vs H', Inv X pins σ H' s' ∧ Vals vs us ∧ Q vs H'
def SP (X : Cx) (pins : List (Addr × Obj)) (D : Ends) (f : Flow) (s' : Shared) : Prop :=
  match f with
  | .next => ∃ σ' H', Inv X pins σ' H' s' ∧ D.nx σ' H'
  | .brk => ∃ σ' H', Inv X pins σ' H' s' ∧ D.bk σ' H'
  | .cont => ∃ σ' H', Inv X pins σ' H' s' ∧ D.ct σ' H'
  | .ret u => ∃ v σ' H', Inv X pins σ' H' s' ∧ RelV v u ∧ D.rt v H'
def PE (X : Cx) (e : Expr) (t : TE) : Prop :=
  ∀ (pins : List (Addr × Obj)) (s : Shared) (σ : St) (H : Hp) (Q : VK), Inv X pins σ H s → t σ H Q → wpAny (model X.prog X.w) X.A (eval e X.env) (EP X pins σ Q) X.xe s
def PT (X : Cx) (e : Expr) (t : TT) : Prop :=
  ∀ (pins : List (Addr × Obj)) (s : Shared) (σ : St) (H : Hp) (Q : Bool → Hp → Prop), Inv X pins σ H s → t σ H Q → wpAny (model X.prog X.w) X.A (isTrue e X.env (eval e X.env)) (TP X pins σ Q) X.xe s
def PW (X : Cx) (e : Expr) (t : TT) : Prop :=
  ∀ (whole : Sem Value) (pins : List (Addr × Obj)) (s : Shared) (σ : St) (H : Hp) (Q : Bool → Hp → Prop), Inv X pins σ H s → t σ H Q → wpAny (model X.prog X.w) X.A (isTrue e X.env whole) (TP X pins σ Q) X.xe s
theorem PW.pt {X : Cx} {e : Expr} {t : TT} (h : PW X e t) : PT X e t := h _
def PA (X : Cx) (es : List Expr) (t : TA) : Prop :=
  ∀ (pos : Pos) (pins : List (Addr × Obj)) (s : Shared) (σ : St) (H : Hp) (Q : List V → Hp → Prop), Inv X pins σ H s → t σ H Q → wpAny (model X.prog X.w) X.A (spliced (backTo pos (starEach es X.env))) (AP X pins σ Q) X.xe s
def PS (X : Cx) (st : Stmt) (t : TS) : Prop :=
  ∀ (pins : List (Addr × Obj)) (s : Shared) (σ : St) (H : Hp) (D : Ends), Inv X pins σ H s → t D σ H → wpAny (model X.prog X.w) X.A (exec st X.env) (SP X pins D) X.xe s
def PSs (X : Cx) (st : List Stmt) (t : TS) : Prop :=
  ∀ (pins : List (Addr × Obj)) (s : Shared) (σ : St) (H : Hp) (D : Ends), Inv X pins σ H s → t D σ H → wpAny (model X.prog X.w) X.A (execs st X.env) (SP X pins D) X.xe s
theorem thn {α : Type} {t : Sem α} {Q Q' : α → Shared → Prop} {M : Model} {A : Around} {E : Value → Shared → Prop} {s : Shared} (h : wpAny M A t Q E s) (hQ : ∀ a s, Q a s → Q' a s) : wpAny M A t Q' E s := wpAny_mono h hQ fun _ _ x => x
end L2
namespace L2
open PySem PySem.Spec PyProof.Rows
section
variable {X : Cx}
theorem bin {a b : Expr} {ta tb : TE} (ha : PE X a ta) (hb : PE X b tb) {pins : List (Addr × Obj)} {s : Shared} {σ : St} {H : Hp} {R : V → V → Hp → Prop} (I : Inv X pins σ H s) (h : ta σ H fun x H1 => tb σ H1 fun y H2 => R x y H2)
    {α : Type} {Q : α → Shared → Prop} {f : Value → Value → Sem α}
    (hf : ∀ v u s2 x y H2, Inv X pins σ H2 s2 → RelV x v → RelV y u → R x y H2 → wpAny (model X.prog X.w) X.A (f v u) Q X.xe s2) :
    wpAny (model X.prog X.w) X.A (eval a X.env) (fun v s₁ => wpAny (model X.prog X.w) X.A (eval b X.env) (fun u s₂ => wpAny (model X.prog X.w) X.A (f v u) Q X.xe s₂) X.xe s₁) X.xe s := by
  refine thn (ha pins s σ H _ I h) fun v s1 ⟨x, H1, I1, r1, q1⟩ => ?_
  refine thn (hb pins s1 σ H1 _ I1 q1) fun u s2 ⟨y, H2, I2, r2, q2⟩ => ?_
  exact hf v u s2 x y H2 I2 r1 r2 q2
def tVar (i : Nat) : TE := fun σ H Q => ∃ v, σ[i]? = some (some v) ∧ Q v H
def tC (v : V) : TE := fun _ H Q => Q v H
theorem pe_var {i : Nat} {x : Str} {pos : Pos} (hN : X.N[i]? = some x) (hv : Vis X.env.scope x) (hd : (x == ("__debug__" : Str)) = false := by decide) (hcd : (x == ("__classdict__" : Str)) = false := by decide) : PE X (.Name x pos) (tVar i) := by
  intro pins s σ H Q I h
  obtain ⟨v, e, h⟩ := h
  obtain ⟨m, hn, hl⟩ := I.loc
  obtain ⟨u, r, l⟩ := hl i x v hN e hv
  have fin : EP X pins σ Q u s := ⟨v, H, I, r, h⟩
  rcases l with ⟨hk, hm⟩ | ⟨hk, c, hc, hcell⟩
  · exact wpAny_Name (wpAny_loadName_local I.ok.kind hk hn hm fin) hd
  · rcases hk with hk | hk
    · exact wpAny_Name (wpAny_loadName_cell I.ok.kind hk hc hcell fin) hd
    · exact wpAny_Name (wpAny_loadName_free I.ok.kind hk hc hcell fin hcd) hd
theorem pe_int {i j pos} : PE X (.Constant (.int i) j pos) (tC (.int i)) := fun _ _ _ H _ I h => wpAny_Constant_int ⟨.int i, H, I.tok _, ⟨_, rfl⟩, h⟩
theorem pe_bl {b j pos} : PE X (.Constant (.bool b) j pos) (tC (.bl b)) := fun _ _ _ H _ I h => Constant_bool ⟨.bl b, H, I, rfl, h⟩
theorem pe_non {j pos} : PE X (.Constant .none j pos) (tC .non) := fun _ _ _ H _ I h => Constant_none ⟨.non, H, I, rfl, h⟩
theorem pe_str {x j pos} : PE X (.Constant (.str x) j pos) (tC (.str x)) := fun _ _ _ H _ I h => Calls.Constant_str ⟨.str x, H, I.tok _, ⟨_, rfl⟩, h⟩
def Gl (X : Cx) (x : Str) : Prop := X.env.kindOf x = some .globalImplicit
theorem ld_glob {E : Value → Shared → Prop} {pins : List (Addr × Obj)} {s : Shared} {σ : St} {H : Hp} {x : Str} {u : Value} {pos : Pos} {Q : Value → Shared → Prop} (I : Inv X pins σ H s) (hg : Gl X x) (hm : X.mg x = some u) (h : Q u s)
    (hd : (x == ("__debug__" : Str)) = false := by decide) : wpAny (model X.prog X.w) X.A (eval (.Name x pos) X.env) Q E s :=
  Calls.Name_function_global I.ok.kind hg (Calls.loadGlobal_global (by rw [I.ok.glob]; exact I.mod.glob.keeps I.bk) hm h) hd
theorem ld_blt {E : Value → Shared → Prop} {pins : List (Addr × Obj)} {s : Shared} {σ : St} {H : Hp} {x : Str} {u : Value} {pos : Pos} {Q : Value → Shared → Prop} (I : Inv X pins σ H s) (hg : Gl X x) (hm : X.mg x = none) (hv : bootBuiltins x = some u) (h : Q u s)
    (hn : x ≠ "__name__" := by decide) (hd : (x == ("__debug__" : Str)) = false := by decide) : wpAny (model X.prog X.w) X.A (eval (.Name x pos) X.env) Q E s := by
  obtain ⟨mb, h1, h2⟩ := I.mod.blt
  exact Calls.Name_function_global I.ok.kind hg (Calls.loadGlobal_builtin (by rw [I.ok.glob]; exact I.mod.glob.keeps I.bk) hm (by rw [I.ok.blt]; exact h1.keeps I.bk) ((h2 x hn).trans hv) h) hd
theorem pe_glob {x : Str} {v : V} {u : Value} {pos : Pos} (hg : Gl X x) (hm : X.mg x = some u) (r : RelV v u) (hd : (x == ("__debug__" : Str)) = false := by decide) : PE X (.Name x pos) (tC v) :=
  fun _ _ _ H _ I h => ld_glob I hg hm ⟨v, H, I, r, h⟩ hd
theorem pe_bltn {x : Str} {v : V} {u : Value} {pos : Pos} (hg : Gl X x) (hm : X.mg x = none) (hv : bootBuiltins x = some u) (r : RelV v u) (hn : x ≠ "__name__" := by decide) (hd : (x == ("__debug__" : Str)) = false := by decide) : PE X (.Name x pos) (tC v) :=
  fun _ _ _ H _ I h => ld_blt I hg hm hv ⟨v, H, I, r, h⟩ hn hd
def t2I (ta tb : TE) (k : Int → Int → Hp → Prop) : St → Hp → Prop := fun σ H => ta σ H fun x H1 => tb σ H1 fun y H2 => ∃ i j, x = .int i ∧ y = .int j ∧ k i j H2
def tAdd (ta tb : TE) : TE := fun σ H Q => t2I ta tb (fun i j H2 => Q (.int (i + j)) H2) σ H
def tSub (ta tb : TE) : TE := fun σ H Q => t2I ta tb (fun i j H2 => Q (.int (i - j)) H2) σ H
def tMul (ta tb : TE) : TE := fun σ H Q => t2I ta tb (fun i j H2 => (-(2 ^ 64) < i ∧ i < 2 ^ 64) ∧ Q (.int (i * j)) H2) σ H
variable {a b : Expr} {ta tb : TE} {pos : Pos}
theorem pe_add (ha : PE X a ta) (hb : PE X b tb) : PE X (.BinOp a .Add b pos) (tAdd ta tb) := by
  intro pins s σ H Q I h
  refine wpAny_BinOp (bin ha hb I h fun v u s2 x y H2 I2 rx ry q => ?_)
  obtain ⟨i, j, rfl, rfl, q⟩ := q
  obtain ⟨t, rfl⟩ := rx
  obtain ⟨t', rfl⟩ := ry
  exact add_int ⟨.int _, H2, I2.tok _, ⟨_, rfl⟩, q⟩
theorem pe_sub (ha : PE X a ta) (hb : PE X b tb) : PE X (.BinOp a .Sub b pos) (tSub ta tb) := by
  intro pins s σ H Q I h
  refine wpAny_BinOp (bin ha hb I h fun v u s2 x y H2 I2 rx ry q => ?_)
  obtain ⟨i, j, rfl, rfl, q⟩ := q
  obtain ⟨t, rfl⟩ := rx
  obtain ⟨t', rfl⟩ := ry
  exact sub_int ⟨.int _, H2, I2.tok _, ⟨_, rfl⟩, q⟩
theorem pe_mul (ha : PE X a ta) (hb : PE X b tb) : PE X (.BinOp a .Mult b pos) (tMul ta tb) := by
  intro pins s σ H Q I h
  refine wpAny_BinOp (bin ha hb I h fun v u s2 x y H2 I2 rx ry q => ?_)
  obtain ⟨i, j, rfl, rfl, ⟨q1, q2⟩, q⟩ := q
  obtain ⟨t, rfl⟩ := rx
  obtain ⟨t', rfl⟩ := ry
  exact mul_int ⟨.int _, H2, I2.tok _, ⟨_, rfl⟩, q⟩ (.of_left (intBits_le_64 q1 q2))
def PC (X : Cx) (op : CmpOp) (a b : Expr) (t : TE) : Prop :=
  ∀ (pins : List (Addr × Obj)) (s : Shared) (σ : St) (H : Hp) (Q : VK), Inv X pins σ H s → t σ H Q →
    wpAny (model X.prog X.w) X.A (eval a X.env) (fun v s₁ => wpAny (model X.prog X.w) X.A (eval b X.env) (fun u s₂ => wpAny (model X.prog X.w) X.A (compareOp op v u) (EP X pins σ Q) X.xe s₂) X.xe s₁) X.xe s
theorem nobehind (b : Expr) {op : CmpOp} (h : op ≠ .In) (h2 : op ≠ .NotIn) : behindInMarks op b = false := by
  have e1 : (op == CmpOp.In) = false := by cases op <;> first | rfl | exact absurd rfl h
  have e2 : (op == CmpOp.NotIn) = false := by cases op <;> first | rfl | exact absurd rfl h2
  cases b <;> simp [behindInMarks, e1, e2]
def tCmp (p : Int → Int → Bool) (ta tb : TE) : TE := fun σ H Q => t2I ta tb (fun i j H2 => Q (.bl (p i j)) H2) σ H
abbrev tLt : TE → TE → TE := tCmp fun i j => decide (i < j)
abbrev tLe : TE → TE → TE := tCmp fun i j => decide (i ≤ j)
abbrev tGt : TE → TE → TE := tCmp fun i j => decide (j < i)
abbrev tGe : TE → TE → TE := tCmp fun i j => decide (j ≤ i)
abbrev tEqI : TE → TE → TE := tCmp fun i j => decide (i = j)
abbrev tNeI : TE → TE → TE := tCmp fun i j => !decide (i = j)
theorem pc_int {op : CmpOp} {p : Int → Int → Bool} (ha : PE X a ta) (hb : PE X b tb)
    (rule : ∀ (i j : Int) (t u : Tok) (Q : Value → Shared → Prop) (s : Shared), Q (.bool (p i j)) s → wpAny (model X.prog X.w) X.A (compareOp op (.int i t) (.int j u)) Q X.xe s) : PC X op a b (tCmp p ta tb) := by
  intro pins s σ H Q I h
  refine bin ha hb I h fun v u s2 x y H2 I2 rx ry q => ?_
  obtain ⟨i, j, rfl, rfl, q⟩ := q
  obtain ⟨t, rfl⟩ := rx
  obtain ⟨t', rfl⟩ := ry
  exact rule i j t t' _ s2 ⟨.bl _, H2, I2, rfl, q⟩
theorem pc_lt (ha : PE X a ta) (hb : PE X b tb) : PC X .Lt a b (tLt ta tb) := pc_int ha hb fun _ _ _ _ _ _ h => lt_int h
theorem pc_le (ha : PE X a ta) (hb : PE X b tb) : PC X .LtE a b (tLe ta tb) := pc_int ha hb fun _ _ _ _ _ _ h => le_int h
theorem pc_gt (ha : PE X a ta) (hb : PE X b tb) : PC X .Gt a b (tGt ta tb) := pc_int ha hb fun _ _ _ _ _ _ h => gt_int h
theorem pc_ge (ha : PE X a ta) (hb : PE X b tb) : PC X .GtE a b (tGe ta tb) := pc_int ha hb fun _ _ _ _ _ _ h => ge_int h
theorem pc_eqI (ha : PE X a ta) (hb : PE X b tb) : PC X .Eq a b (tEqI ta tb) := pc_int ha hb fun _ _ _ _ _ _ h => eq_int (by rw [Bool.beq_eq_decide_eq]; exact h)
theorem pc_neI (ha : PE X a ta) (hb : PE X b tb) : PC X .NotEq a b (tNeI ta tb) := pc_int ha hb fun _ _ _ _ _ _ h => ne_int (by rw [bne, Bool.beq_eq_decide_eq]; exact h)
def tIsN (ta : TE) : TE := fun σ H Q => ta σ H fun x H1 => Q (.bl (decide (x = .non))) H1
def tNotN (ta : TE) : TE := fun σ H Q => ta σ H fun x H1 => Q (.bl (!decide (x = .non))) H1
theorem RelV.none_iff {x : V} {v : Value} (r : RelV x v) : (v == Value.none) = decide (x = .non) := by
  cases x with
  | non => cases r; rfl
  | bl _ => cases r; rfl
  | int _ => obtain ⟨t, rfl⟩ := r; rfl
  | str _ => obtain ⟨t, rfl⟩ := r; rfl
  | byt _ => obtain ⟨t, rfl⟩ := r; rfl
  | flt _ => obtain ⟨t, rfl⟩ := r; rfl
  | ref _ => cases r; rfl
  | ty _ => cases r; rfl
theorem pc_isN {j pos'} (ha : PE X a ta) : PC X .Is a (.Constant .none j pos') (tIsN ta) := by
  intro pins s σ H Q I h
  refine thn (ha pins s σ H _ I h) fun v s1 ⟨x, H1, I1, r1, q1⟩ => ?_
  exact Constant_none (is_none_gen ⟨.bl _, H1, I1, by rw [r1.none_iff]; rfl, q1⟩)
theorem pc_notN {j pos'} (ha : PE X a ta) : PC X .IsNot a (.Constant .none j pos') (tNotN ta) := by
  intro pins s σ H Q I h
  refine thn (ha pins s σ H _ I h) fun v s1 ⟨x, H1, I1, r1, q1⟩ => ?_
  exact Constant_none (isnot_none_gen ⟨.bl _, H1, I1, by rw [r1.none_iff]; rfl, q1⟩)
def tB (t : TE) : TT := fun σ H Q => t σ H fun x H1 => ∃ c, x = .bl c ∧ Q c H1
theorem pe_cmp {op : CmpOp} {t : TE} (h : PC X op a b t) (h1 : behindInMarks op b = false := by first | exact nobehind _ (by decide) (by decide) | rfl) : PE X (.Compare a [op] [b] pos) t := fun pins s σ H Q I hw => wpAny_Compare1 (h pins s σ H Q I hw) h1
theorem pt_cmp {op : CmpOp} {t : TE} (h : PC X op a b t) (h1 : behindInMarks op b = false := by first | exact nobehind _ (by decide) (by decide) | rfl) : PT X (.Compare a [op] [b] pos) (tB t) := by
  intro pins s σ H Q I hw
  refine wpAny_isTrue_Compare1 (thn (h pins s σ H _ I hw) fun v s1 h1 => thn h1 fun u s2 h2 => thn h2 fun c s3 ⟨x, H1, I1, r1, q1⟩ => ?_) h1
  obtain ⟨d, rfl, q⟩ := q1
  cases r1
  exact wpAny_truthy_bool ⟨H1, I1, q⟩
theorem pt_val {e : Expr} {t : TE} (h : PE X e t) (he : ∀ whole, isTrue e X.env whole = (do let v ← whole; standAt e.pos; holding [v] (truthy v)) := by intro _; rfl) : PT X e (tB t) := by
  intro pins s σ H Q I hw
  refine isTrue_plain (thn (h pins s σ H _ I hw) fun v s1 ⟨x, H1, I1, r1, q1⟩ => ?_) (he _)
  obtain ⟨d, rfl, q⟩ := q1
  cases r1
  exact wpAny_truthy_bool ⟨H1, I1, q⟩
variable {tA tB' : TT} {rest : List Expr}
def tAnd (t u : TT) : TT := fun σ H Q => t σ H fun c H1 => if c = true then u σ H1 Q else Q false H1
def tOr (t u : TT) : TT := fun σ H Q => t σ H fun c H1 => if c = true then Q true H1 else u σ H1 Q
def tNot (t : TT) : TT := fun σ H Q => t σ H fun c H1 => Q (!c) H1
theorem pw_and1 (ha : PT X a tA) : PW X (.BoolOp .And [a] pos) tA := by
  intro wh pins s σ H Q I h
  refine isTrue_and (thn (ha pins s σ H Q I h) fun c s1 e => ?_)
  cases c with
  | true => exact isTrue_and_nil e
  | false => exact e
theorem pw_or1 (ha : PT X a tA) : PW X (.BoolOp .Or [a] pos) tA := by
  intro wh pins s σ H Q I h
  refine isTrue_or (thn (ha pins s σ H Q I h) fun c s1 e => ?_)
  cases c with
  | false => exact isTrue_or_nil e
  | true => exact e
theorem pw_and (ha : PT X a tA) (hb : PW X (.BoolOp .And (b :: rest) pos) tB') : PW X (.BoolOp .And (a :: b :: rest) pos) (tAnd tA tB') := by
  intro wh pins s σ H Q I h
  refine isTrue_and (thn (ha pins s σ H _ I h) fun c s1 ⟨H1, I1, q1⟩ => ?_)
  cases c with
  | true => exact hb wh pins s1 σ H1 Q I1 q1
  | false => exact ⟨H1, I1, q1⟩
theorem pw_or (ha : PT X a tA) (hb : PW X (.BoolOp .Or (b :: rest) pos) tB') : PW X (.BoolOp .Or (a :: b :: rest) pos) (tOr tA tB') := by
  intro wh pins s σ H Q I h
  refine isTrue_or (thn (ha pins s σ H _ I h) fun c s1 ⟨H1, I1, q1⟩ => ?_)
  cases c with
  | true => exact ⟨H1, I1, q1⟩
  | false => exact hb wh pins s1 σ H1 Q I1 q1
theorem pt_not (ha : PT X a tA) : PT X (.UnaryOp .Not a pos) (tNot tA) := by
  intro pins s σ H Q I h
  exact isTrue_not (ha pins s σ H (fun c H1 => Q (!c) H1) I h)
def tAndV (ta tb : TE) : TE := fun σ H Q => ta σ H fun x H1 => ∃ c, x = .bl c ∧ if c = true then tb σ H1 Q else Q (.bl false) H1
def tOrV (ta tb : TE) : TE := fun σ H Q => ta σ H fun x H1 => ∃ c, x = .bl c ∧ if c = true then Q (.bl true) H1 else tb σ H1 Q
def tNotV (ta : TE) : TE := fun σ H Q => ta σ H fun x H1 => ∃ c, x = .bl c ∧ Q (.bl (!c)) H1
theorem pe_one {op} {t : TE} (h : PE X a t) : PE X (.BoolOp op [a] pos) t := fun pins s σ H Q I hw => BoolOp_one (h pins s σ H Q I hw)
theorem pe_and (ha : PE X a ta) (hb : PE X (.BoolOp .And (b :: rest) pos) tb) : PE X (.BoolOp .And (a :: b :: rest) pos) (tAndV ta tb) := by
  intro pins s σ H Q I h
  refine BoolOp_and (thn (ha pins s σ H _ I h) fun v s1 ⟨x, H1, I1, r1, q1⟩ => ?_)
  obtain ⟨c, rfl, q1⟩ := q1
  cases r1
  refine wpAny_truthy_bool ?_
  cases c with
  | true => exact hb pins s1 σ H1 Q I1 q1
  | false => exact ⟨.bl false, H1, I1, rfl, q1⟩
theorem pe_or (ha : PE X a ta) (hb : PE X (.BoolOp .Or (b :: rest) pos) tb) : PE X (.BoolOp .Or (a :: b :: rest) pos) (tOrV ta tb) := by
  intro pins s σ H Q I h
  refine BoolOp_or (thn (ha pins s σ H _ I h) fun v s1 ⟨x, H1, I1, r1, q1⟩ => ?_)
  obtain ⟨c, rfl, q1⟩ := q1
  cases r1
  refine wpAny_truthy_bool ?_
  cases c with
  | false => exact hb pins s1 σ H1 Q I1 q1
  | true => exact ⟨.bl true, H1, I1, rfl, q1⟩
theorem pe_not (ha : PE X a ta) : PE X (.UnaryOp .Not a pos) (tNotV ta) := by
  intro pins s σ H Q I h
  refine UnaryOp_ (thn (ha pins s σ H _ I h) fun v s1 ⟨x, H1, I1, r1, q1⟩ => ?_)
  obtain ⟨c, rfl, q1⟩ := q1
  cases r1
  exact not_of (wpAny_truthy_bool ⟨.bl (!c), H1, I1, rfl, q1⟩)
def tIf (t : TT) (ta tb : TE) : TE := fun σ H Q => t σ H fun c H1 => if c = true then ta σ H1 Q else tb σ H1 Q
theorem pe_ifExp {c : Expr} (hc : PT X c tA) (ha : PE X a ta) (hb : PE X b tb) : PE X (.IfExp c a b pos) (tIf tA ta tb) := by
  intro pins s σ H Q I h
  refine wpAny_IfExp (thn (hc pins s σ H _ I h) fun d s1 ⟨H1, I1, q1⟩ => ?_)
  cases d with
  | true => exact ha pins s1 σ H1 Q I1 q1
  | false => exact hb pins s1 σ H1 Q I1 q1
end
end L2
namespace L2
open PySem PySem.Spec PyProof.Rows
def SqL (K : PySem.W.Frag) (H : Hp) (a : Addr) (xs : List V) : Prop :=
  Rd H a (.lst xs) ∨
    ∃ (o : Obj) (its : Array Value) (n : Nat), K.lookup a = some o ∧ o.cls = .type "list" ∧ o.dict = none ∧ o.data = .seq its n ∧ its.size ≤ sizeLine ∧ Vals xs its.toList
def SqT (K : PySem.W.Frag) (H : Hp) (a : Addr) (xs : List V) : Prop :=
  Rd H a (.tup xs) ∨
    ∃ (o : Obj) (its : Array Value) (n : Nat), K.lookup a = some o ∧ o.cls = .type "tuple" ∧ o.data = .seq its n ∧ its.size ≤ sizeLine ∧ Vals xs its.toList
def absV : Value → Option V
  | .none => some .non
  | .bool b => some (.bl b)
  | .int i _ => some (.int i)
  | .str x _ => some (.str x)
  | .bytes b _ => some (.byt b)
  | .float b _ => some (.flt b)
  | .ref a => some (.ref a)
  | .type n => some (.ty n)
  | _ => none
theorem RelV.abs {x : V} {u : Value} (r : RelV x u) : absV u = some x := by
  cases x with
  | non => cases r; rfl
  | bl _ => cases r; rfl
  | int _ => obtain ⟨t, rfl⟩ := r; rfl
  | str _ => obtain ⟨t, rfl⟩ := r; rfl
  | byt _ => obtain ⟨t, rfl⟩ := r; rfl
  | flt _ => obtain ⟨t, rfl⟩ := r; rfl
  | ref _ => cases r; rfl
  | ty _ => cases r; rfl
theorem RelV.inj {x y : V} {u : Value} (r : RelV x u) (q : RelV y u) : x = y := Option.some.inj (r.abs.symm.trans q.abs)
theorem Vals.inj : ∀ {xs ys : List V} {us : List Value}, Vals xs us → Vals ys us → xs = ys
  | _, _, _, .nil, .nil => rfl
  | _, _, _, .cons r t, .cons r' t' => by rw [r.inj r', Vals.inj t t']
section
variable {X : Cx} {pins : List (Addr × Obj)} {σ : St} {H : Hp} {s : Shared} {a : Addr} {xs ys : List V}
theorem SqL.of {K : PySem.W.Frag} (h : H a = some (.lst xs)) : SqL K H a xs := .inl (.inl h)
theorem SqT.of {K : PySem.W.Frag} (h : H a = some (.tup xs)) : SqT K H a xs := .inl (.inl h)
theorem Inv.list (I : Inv X pins σ H s) (h : SqL X.K H a xs) : ∃ its : List Value, Vals xs its ∧ PlainL s.heap a its.toArray ∧ xs.length ≤ sizeLine := by
  rcases h with h | ⟨o, its, n, hk, hc, hd, hs, hz, r⟩
  · obtain ⟨z, its, n, r, e⟩ := h.ok I.hok
    exact ⟨its, r, ⟨_, n, e, rfl, rfl, rfl⟩, z⟩
  · refine ⟨its.toList, r, ⟨o, n, I.kIn a o hk, hc, hd, by simpa using hs⟩, ?_⟩
    have e := r.length
    simp only [Array.length_toList] at e
    omega
theorem Inv.tuple (I : Inv X pins σ H s) (h : SqT X.K H a xs) : ∃ its : List Value, Vals xs its ∧ IsTup s.heap a its.toArray ∧ xs.length ≤ sizeLine := by
  rcases h with h | ⟨o, its, n, hk, hc, hs, hz, r⟩
  · obtain ⟨z, its, r, p⟩ := h.ok I.hok
    exact ⟨its, r, p, z⟩
  · refine ⟨its.toList, r, ⟨o, I.kIn a o hk, hc, n, by simpa using hs⟩, ?_⟩
    have e := r.length
    simp only [Array.length_toList] at e
    omega
theorem Inv.list_inj (I : Inv X pins σ H s) (h : SqL X.K H a xs) (h' : SqL X.K H a ys) : xs = ys := by
  obtain ⟨its, r, ⟨o, n, e, _, _, d⟩, _⟩ := I.list h
  obtain ⟨its', r', ⟨o', n', e', _, _, d'⟩, _⟩ := I.list h'
  rw [e] at e'; cases e'
  rw [d] at d'
  injection d' with d1 _
  have : its = its' := by simpa using congrArg Array.toList d1
  subst this
  exact r.inj r'
theorem Inv.tuple_inj (I : Inv X pins σ H s) (h : SqT X.K H a xs) (h' : SqT X.K H a ys) : xs = ys := by
  obtain ⟨its, r, ⟨o, e, _, n, d⟩, _⟩ := I.tuple h
  obtain ⟨its', r', ⟨o', e', _, n', d'⟩, _⟩ := I.tuple h'
  rw [e] at e'; cases e'
  rw [d] at d'
  injection d' with d1 _
  have : its = its' := by simpa using congrArg Array.toList d1
  subst this
  exact r.inj r'
end
abbrev Cx.wish (X : Cx) (E : Value → Shared → Prop) : Cx := { X with xe := E }
abbrev Cx.nox (X : Cx) : Cx := X.wish fun _ _ => False
theorem Cx.Ok.wish {X : Cx} (ok : X.Ok) (E : Value → Shared → Prop) : (X.wish E).Ok :=
  ⟨ok.mod, ok.kind, ok.glob, ok.blt, ok.above, ok.inj, ok.has, ok.cab, ok.hd, ok.frames, ok.stk, ok.exf, ok.bs, ok.bsz, ok.noex, ok.exfs, ok.funs, ok.frf⟩
theorem Cx.Ok.unwish {X : Cx} {E : Value → Shared → Prop} (ok : (X.wish E).Ok) : X.Ok :=
  ⟨ok.mod, ok.kind, ok.glob, ok.blt, ok.above, ok.inj, ok.has, ok.cab, ok.hd, ok.frames, ok.stk, ok.exf, ok.bs, ok.bsz, ok.noex, ok.exfs, ok.funs, ok.frf⟩
section
variable {X : Cx} {pins : List (Addr × Obj)} {σ : St} {H : Hp} {s : Shared} {E : Value → Shared → Prop}
theorem Inv.wish (I : Inv X pins σ H s) (E : Value → Shared → Prop) : Inv (X.wish E) pins σ H s := ⟨I.ok.wish E, I.os, I.bare, I.base, I.loc, I.cell, I.free, I.freeC, I.pin, I.hok, I.len⟩
theorem Inv.unwish (I : Inv (X.wish E) pins σ H s) : Inv X pins σ H s := ⟨I.ok.unwish, I.os, I.bare, I.base, I.loc, I.cell, I.free, I.freeC, I.pin, I.hok, I.len⟩
theorem SP.unwish {D : Ends} {f : Flow} {s' : Shared} (h : SP (X.wish E) pins D f s') : SP X pins D f s' := by
  cases f with
  | next => obtain ⟨σ', H', I, q⟩ := h; exact ⟨σ', H', I.unwish, q⟩
  | brk => obtain ⟨σ', H', I, q⟩ := h; exact ⟨σ', H', I.unwish, q⟩
  | cont => obtain ⟨σ', H', I, q⟩ := h; exact ⟨σ', H', I.unwish, q⟩
  | ret u => obtain ⟨v, σ', H', I, r, q⟩ := h; exact ⟨v, σ', H', I.unwish, r, q⟩
theorem PE.nox {e : Expr} {t : TE} (h : PE X.nox e t) : PE X e t := fun pins s σ H Q I hw =>
  wpAny_mono (h pins s σ H Q (I.wish _) hw) (fun _ _ ⟨v, H', I', r, q⟩ => ⟨v, H', I'.unwish, r, q⟩) fun _ _ z => False.elim z
theorem PT.nox {e : Expr} {t : TT} (h : PT X.nox e t) : PT X e t := fun pins s σ H Q I hw =>
  wpAny_mono (h pins s σ H Q (I.wish _) hw) (fun _ _ ⟨H', I', q⟩ => ⟨H', I'.unwish, q⟩) fun _ _ z => False.elim z
theorem PSs.nox {st : List Stmt} {t : TS} (h : PSs X.nox st t) : PSs X st t := fun pins s σ H D I hw =>
  wpAny_mono (h pins s σ H D (I.wish _) hw) (fun _ _ q => q.unwish) fun _ _ z => False.elim z
end
section
variable {X : Cx} {st : Stmt} {rest : List Stmt} {t u : TS} {e : Expr} {te : TE} {pos : Pos}
def tNext : TS := fun D σ H => D.nx σ H
def tSeq (t u : TS) : TS := fun D σ H => t { D with nx := u D } σ H
theorem pss_nil : PSs X [] tNext := fun _ _ σ H _ I h => wpAny_execs_nil ⟨σ, H, I, h⟩
theorem pss_cons (h1 : PS X st t) (h2 : PSs X rest u) : PSs X (st :: rest) (tSeq t u) := by
  intro pins s σ H D I h
  refine wpAny_execs_cons (thn (h1 pins s σ H { D with nx := u D } I h) fun f s1 q => ?_)
  cases f with
  | next =>
    obtain ⟨σ', H', I', q⟩ := q
    exact h2 pins s1 σ' H' D I' q
  | ret v => exact q
  | brk => exact q
  | cont => exact q
theorem pss_one (h1 : PS X st t) : PSs X [st] t := by
  intro pins s σ H D I h
  refine wpAny_execs_cons (thn (h1 pins s σ H D I h) fun f s1 q => ?_)
  cases f with
  | next => exact wpAny_execs_nil q
  | ret v => exact q
  | brk => exact q
  | cont => exact q
def tBreak : TS := fun D σ H => D.bk σ H
def tCont : TS := fun D σ H => D.ct σ H
theorem ps_pass : PS X (.Pass pos) tNext := fun _ _ σ H _ I h => wpAny_Pass ⟨σ, H, I, h⟩
theorem ps_break : PS X (.Break pos) tBreak := fun _ _ σ H _ I h => wpAny_Break ⟨σ, H, I, h⟩
theorem ps_continue : PS X (.Continue pos) tCont := fun _ _ σ H _ I h => wpAny_Continue ⟨σ, H, I, h⟩
theorem Inv.quiet {pins : List (Addr × Obj)} {σ : St} {H : Hp} {s : Shared} (I : Inv X pins σ H s) : interactive X.env = false := by simp [interactive, I.ok.kind]
theorem ps_doc {x j pos pos'} : PS X (.Expr (.Constant (.str x) j pos) pos') tNext := fun _ s σ H _ I h => wpAny_Expr (Calls.Constant_str (show SP X _ _ .next { s with toks := s.toks + 1 } from ⟨σ, H, I.tok _, h⟩)) I.quiet
def tDrop (te : TE) : TS := fun D σ H => te σ H fun _ H1 => D.nx σ H1
theorem ps_expr (he : PE X e te) (hs : swapsWith e none pos.line X.env = pure false := by rfl) : PS X (.Expr e pos) (tDrop te) := by
  intro pins s σ H D I h
  exact wpAny_Expr_any (thn (he pins s σ H _ I h) fun v s1 ⟨x, H1, I1, r1, q1⟩ => ⟨σ, H1, I1, q1⟩) I.quiet hs
def tRet (te : TE) : TS := fun D σ H => te σ H D.rt
theorem ps_ret (he : PE X e te) : PS X (.Return (some e) pos) (tRet te) := by
  intro pins s σ H D I h
  exact wpAny_Return_some (thn (he pins s σ H _ I h) fun v s1 ⟨x, H1, I1, r1, q1⟩ => ⟨x, σ, H1, I1, r1, q1⟩)
def tRetN : TS := fun D _ H => D.rt .non H
theorem ps_retN : PS X (.Return none pos) tRetN := fun _ _ σ H _ I h => wpAny_Return_none ⟨.non, σ, H, I, rfl, h⟩
def tIfS (c : TT) (t u : TS) : TS := fun D σ H => c σ H fun b H1 => if b = true then t D σ H1 else u D σ H1
theorem ps_if {c : Expr} {a b : List Stmt} {tc : TT} (hc : PT X c tc) (ha : PSs X a t) (hb : PSs X b u) : PS X (.If c a b pos) (tIfS tc t u) := by
  intro pins s σ H D I h
  refine wpAny_If (thn (hc pins s σ H _ I h) fun d s1 ⟨H1, I1, q1⟩ => ?_)
  cases d with
  | true => exact ha pins s1 σ H1 D I1 q1
  | false => exact hb pins s1 σ H1 D I1 q1
def tNever : TS := fun _ _ _ => False
theorem ps_never : PS X st tNever := fun _ _ _ _ _ _ h => h.elim
theorem pss_never {sts : List Stmt} : PSs X sts tNever := fun _ _ _ _ _ _ h => h.elim
end
abbrev TG := V → St → Hp → (St → Hp → Prop) → Prop
abbrev TGs := List V → St → Hp → (St → Hp → Prop) → Prop
def PG (X : Cx) (target : Expr) (t : TG) : Prop :=
  ∀ (pins : List (Addr × Obj)) (s : Shared) (σ : St) (H : Hp) (v : V) (u : Value) (Q : St → Hp → Prop), Inv X pins σ H s → RelV v u → t v σ H Q →
    wpAny (model X.prog X.w) X.A (assign target X.env u) (fun _ s' => ∃ σ' H', Inv X pins σ' H' s' ∧ Q σ' H') X.xe s
def PGs (X : Cx) (ts : List Expr) (t : TGs) : Prop :=
  ∀ (pins : List (Addr × Obj)) (s : Shared) (σ : St) (H : Hp) (vs : List V) (us : List Value) (Q : St → Hp → Prop), Inv X pins σ H s → Vals vs us → t vs σ H Q →
    wpAny (model X.prog X.w) X.A (assignInOrder ((assignEach ts X.env).map (·.2)) us) (fun _ s' => ∃ σ' H', Inv X pins σ' H' s' ∧ Q σ' H') X.xe s
abbrev TSet := V → V → V → Hp → (Hp → Prop) → Prop
def PSet (X : Cx) (t : TSet) : Prop :=
  ∀ (pins : List (Addr × Obj)) (s : Shared) (σ : St) (H : Hp) (o i v : V) (ov iv u : Value) (Q : Hp → Prop), Inv X pins σ H s → RelV o ov → RelV i iv → RelV v u → t o i v H Q →
    wpAny (model X.prog X.w) X.A (setItem ov iv u) (fun _ s' => ∃ H', Inv X pins σ H' s' ∧ Q H') X.xe s
abbrev TIp := V → V → Hp → VK → Prop
def PIp (X : Cx) (op : Operator) (t : TIp) : Prop :=
  ∀ (pins : List (Addr × Obj)) (s : Shared) (σ : St) (H : Hp) (x y : V) (v u : Value) (Q : VK), Inv X pins σ H s → RelV x v → RelV y u → t x y H Q →
    wpAny (model X.prog X.w) X.A (inplaceOp op v u) (EP X pins σ Q) X.xe s
section
variable {X : Cx} {pos : Pos}
def gName (i : Nat) : TG := fun v σ H Q => Q (σ.set i (some v)) H
theorem pg_name {i : Nat} {x : Str} (hN : X.N.Nodup) (hi : X.N[i]? = some x) (hx : Loc X.env.scope x) (hf : X.fn x = true ∨ X.env.scope.names.lookup x = some .local := by first | exact .inl rfl | exact .inr rfl | assumption) : PG X (.Name x pos) (gName i) := by
  intro pins s σ H v u Q I r h
  exact wpAny_assign_Name (store_ok I hN hi hx r (fun s' I' => ⟨_, H, I', h⟩) hf)
def gNil : TGs := fun vs σ H Q => vs = [] ∧ Q σ H
def gCons (t : TG) (u : TGs) : TGs := fun vs σ H Q => ∃ v r, vs = v :: r ∧ t v σ H fun σ' H' => u r σ' H' Q
theorem pgs_nil : PGs X [] gNil := by
  intro pins s σ H vs us Q I r h
  obtain ⟨e, h⟩ := h
  subst e
  cases r
  exact assignInOrder_nil ⟨σ, H, I, h⟩
theorem pgs_cons {e : Expr} {es : List Expr} {t : TG} {u : TGs} (h1 : PG X e t) (h2 : PGs X es u)
    (hs : (assignEach (e :: es) X.env).map (·.2) = assign e X.env :: (assignEach es X.env).map (·.2) := by rfl) : PGs X (e :: es) (gCons t u) := by
  intro pins s σ H vs us Q I r h
  obtain ⟨v, vr, e1, h⟩ := h
  subst e1
  cases r with
  | cons r rr =>
    rw [hs]
    refine assignInOrder_cons (thn (h1 pins s σ H _ _ _ I r h) fun _ s1 ⟨σ1, H1, I1, q1⟩ => ?_)
    exact h2 pins s1 σ1 H1 _ _ Q I1 rr q1
def gTup (K : PySem.W.Frag) (n : Nat) (t : TGs) : TG := fun v σ H Q => ∃ a xs, v = .ref a ∧ SqT K H a xs ∧ xs.length = n ∧ t xs σ H Q
theorem pg_tup {es : List Expr} {k : Nat} {t : TGs} {n : Nat} (hc : X.calm = true) (h : PGs X es t)
    (hn : (assignEach es X.env).length = n := by rfl) (hst : (assignEach es X.env).findIdx? (·.1) = none := by rfl) : PG X (.Tuple es k pos) (gTup X.K n t) := by
  intro pins s σ H v u Q I r hw
  obtain ⟨a, xs, e1, hq, hl, hw⟩ := hw
  subst e1
  cases r
  obtain ⟨its, rv, ht, hz⟩ := I.tuple hq
  refine assign_Tuple_tuple (I.ok.hd hc) ht (by simp [hn, ← hl, rv.length]) hst fun h' hx => ?_
  have I1 : Inv X pins σ H { s with heap := h' } := I.kept (t' := s.toks) fun b o e => hx b o (Nat.ne_of_lt (Heap.lt_size e)) e
  exact h pins _ σ H xs _ Q I1 (by simpa using rv) hw
def gSub (to ti : TE) (t : TSet) : TG := fun v σ H Q => to σ H fun o H1 => ti σ H1 fun i H2 => t o i v H2 fun H3 => Q σ H3
theorem pg_sub {o i : Expr} {to ti : TE} {t : TSet} (ho : PE X o to) (hi : PE X i ti) (hs : PSet X t)
    (ha : ∀ v, assign (.Subscript o i pos) X.env v = (do
      let ov ← holding [v] (eval o X.env)
      let iv ← holding [v, ov] (eval i X.env)
      standAt pos
      holding [v, ov, iv] (setItem ov iv v)
      release [v, ov, iv] []) := by intro _; rfl) : PG X (.Subscript o i pos) (gSub to ti t) := by
  intro pins s σ H v u Q I r h
  rw [ha]
  refine wpAny_bind (wpAny_holding (thn (ho pins s σ H _ I h) fun ov s1 ⟨x, H1, I1, r1, q1⟩ => ?_))
  refine wpAny_bind (wpAny_holding (thn (hi pins s1 σ H1 _ I1 q1) fun iv s2 ⟨y, H2, I2, r2, q2⟩ => ?_))
  refine wpAny_bind (wpAny_standAt (wpAny_bind (wpAny_holding (thn (hs pins s2 σ H2 x y v ov iv u _ I2 r1 r2 r q2) fun _ s3 ⟨H3, I3, q3⟩ => ?_))))
  exact wpAny_release ⟨σ, H3, I3, q3⟩
def tAsg (te : TE) (g : TG) : TS := fun D σ H => te σ H fun x H1 => g x σ H1 D.nx
theorem ps_asg {tg e : Expr} {te : TE} {g : TG} (he : PE X e te) (hg : PG X tg g) (hs : swapsWithSole [tg] e pos.line X.env = pure false := by rfl) (hw : swappedStores [tg] e X.env = pure none := by rfl)
    (h1 : (assignEach [tg] X.env).map (·.2) = [assign tg X.env] := by rfl) : PS X (.Assign [tg] e pos) (tAsg te g) := by
  intro pins s σ H D I h
  refine wpAny_Assign_stores (thn (he pins s σ H _ I h) fun v s1 ⟨x, H1, I1, r1, q1⟩ => ?_) hs hw
  rw [h1]
  exact thn (hg pins s1 σ H1 x v _ I1 r1 q1) fun _ s2 q => q
theorem ps_set {i : Nat} {x : Str} {e : Expr} {te : TE} {pos' : Pos} (hN : X.N.Nodup) (hi : X.N[i]? = some x) (hx : Loc X.env.scope x) (he : PE X e te) (hs : swapsWith e (some (.Name x pos')) pos.line X.env = pure false := by rfl) (hf : X.fn x = true ∨ X.env.scope.names.lookup x = some .local := by first | exact .inl rfl | exact .inr rfl | assumption) :
    PS X (.Assign [.Name x pos'] e pos) (tAsg te (gName i)) := by
  intro pins s σ H D I h
  refine wpAny_Assign_Name (thn (he pins s σ H _ I h) fun v s1 ⟨y, H1, I1, r1, q1⟩ => ?_) hs
  exact store_ok I1 hN hi hx r1 (fun s2 I2 => ⟨_, H1, I2, q1⟩) hf
def tPar (i j : Nat) (ta : TA) : TS := fun D σ H => ta σ H fun vs H1 => ∃ v w, vs = [v, w] ∧ D.nx ((σ.set i (some v)).set j (some w)) H1
theorem ps_par {i j : Nat} {x y : Str} {a b : Expr} {ta : TA} {px py pt : Pos} {kt k2 pt2} (hc : X.calm = true) (hN : X.N.Nodup) (hi : X.N[i]? = some x) (hj : X.N[j]? = some y) (hij : i ≠ j)
    (hx : X.env.scope.names.lookup x = some .local) (hy : X.env.scope.names.lookup y = some .local) (ha : PA X [a, b] ta)
    (hw : swappedStores [.Tuple [.Name x px, .Name y py] kt pt] (.Tuple [a, b] k2 pt2) X.env = pure (some [x, y]))
    (hs : swapsWithSole [.Tuple [.Name x px, .Name y py] kt pt] (.Tuple [a, b] k2 pt2) pos.line X.env = pure false := by rfl) :
    PS X (.Assign [.Tuple [.Name x px, .Name y py] kt pt] (.Tuple [a, b] k2 pt2) pos) (tPar i j ta) := by
  intro pins s σ H D I h
  rw [exec_Assign_arm]
  refine wpAny_bind (wpAny_standAt ?_)
  rw [hs]
  refine wpAny_bind (wpAny_pure ?_)
  rw [if_neg (by decide)]
  refine wpAny_bind (Tuple_ (thn (ha _ pins s σ H _ I h) fun us s1 ⟨vs, H1, I1, r1, q1⟩ => ?_))
  obtain ⟨v, w, e1, q1⟩ := q1
  subst e1
  obtain ⟨u1, u2, rfl, rv, rw'⟩ : ∃ u1 u2, us = [u1, u2] ∧ RelV v u1 ∧ RelV w u2 := by
    cases r1 with
    | cons p q =>
      cases q with
      | cons p' q' =>
        cases q'
        exact ⟨_, _, rfl, p, p'⟩
  refine wpAny_newObj_type ?_ (by show 2 ≤ sizeLine; decide)
  have I2 : Inv X pins σ H1 { s1 with heap := s1.heap.push { cls := .type "tuple", data := .seq [u1, u2].toArray } } := I1.kept (t' := s1.toks) fun b o e => Heap.get?_push_of_some _ e
  rw [hw]
  refine wpAny_bind (wpAny_pure ?_)
  show wpAny (model X.prog X.w) X.A (do rule "assign.swapped-stores"; let items ← unpackItems (.ref s1.heap.objs.size) 2 none; assignInOrder [fun v => bindName X.env y v, fun v => bindName X.env x v] items.reverse; pure Flow.next) _ _ _
  refine wpAny_bind (wpAny_rule (wpAny_bind (unpackItems_tuple (items := #[u1, u2]) (I.ok.hd hc) (IsTup.new s1.heap _) fun h' hx' => ?_)))
  have I3 := I2.kept (h' := h') (t' := s1.toks) fun b o e => hx' b o (Nat.ne_of_lt (Heap.lt_size e)) e
  show wpAny _ _ (assignInOrder [fun v => bindName X.env y v, fun v => bindName X.env x v] [u2, u1] >>= fun _ => pure Flow.next) _ _ _
  refine wpAny_bind (assignInOrder_cons (wpAny_bindName (store_ok I3 hN hj (.inl hy) rw' (fun s2 I4 => ?_) (.inr hy))))
  refine assignInOrder_cons (wpAny_bindName (store_ok I4 hN hi (.inl hx) rv (fun s3 I5 => assignInOrder_nil (wpAny_pure ?_)) (.inr hx)))
  rw [List.set_comm _ _ (Ne.symm hij)] at I5
  exact ⟨_, H1, I5, q1⟩
def tAug (i : Nat) (te : TE) (ti : TIp) : TS := fun D σ H => ∃ x, σ[i]? = some (some x) ∧ te σ H fun y H1 => ti x y H1 fun z H2 => D.nx (σ.set i (some z)) H2
theorem ps_aug {i : Nat} {x : Str} {e : Expr} {te : TE} {op : Operator} {ti : TIp} {pos' : Pos} (hN : X.N.Nodup) (hi : X.N[i]? = some x) (hx : Loc X.env.scope x) (he : PE X e te) (ho : PIp X op ti) (hf : X.fn x = true ∨ X.env.scope.names.lookup x = some .local := by first | exact .inl rfl | exact .inr rfl | assumption) :
    PS X (.AugAssign (.Name x pos') op e pos) (tAug i te ti) := by
  intro pins s σ H D I h
  obtain ⟨v, e1, h⟩ := h
  obtain ⟨m, hn, hl⟩ := I.loc
  have vis : Vis X.env.scope x := by rcases hx with k | k; exact .inl k; exact .inr (.inl k)
  obtain ⟨u, r, l⟩ := hl i x v hi e1 vis
  refine wpAny_AugAssign_Name ?_
  have go : wpAny (model X.prog X.w) X.A (eval e X.env) (fun w s₂ => wpAny (model X.prog X.w) X.A (inplaceOp op u w) (fun r s₃ => wpAny (model X.prog X.w) X.A (storeName X.env x r) (fun _ => SP X pins D .next) X.xe s₃) X.xe s₂) X.xe s := by
    refine thn (he pins s σ H _ I h) fun w s1 ⟨y, H1, I1, r1, q1⟩ => ?_
    refine thn (ho pins s1 σ H1 v y u w _ I1 r r1 q1) fun z s2 ⟨zv, H2, I2, r2, q2⟩ => ?_
    exact store_ok I2 hN hi hx r2 (fun s3 I3 => ⟨_, H2, I3, q2⟩) hf
  rcases l with ⟨hk, hm⟩ | ⟨hk, c, hc, hcell⟩
  · exact wpAny_loadName_local I.ok.kind hk hn hm go
  · rcases hk with hk | hk
    · exact wpAny_loadName_cell I.ok.kind hk hc hcell go
    · rcases hx with k | k
      · have : X.env.scope.names.lookup x = some .free := hk
        rw [k] at this; cases this
      · have : X.env.scope.names.lookup x = some .free := hk
        rw [k] at this; cases this
def tAugS (to ti te : TE) (tget : V → V → Hp → VK → Prop) (tip : TIp) (tset : TSet) : TS := fun D σ H => to σ H fun o H1 => ti σ H1 fun i H2 => tget o i H2 fun x H3 => te σ H3 fun y H4 => tip x y H4 fun z H5 => tset o i z H5 fun H6 => D.nx σ H6
def PGet (X : Cx) (t : V → V → Hp → VK → Prop) : Prop :=
  ∀ (pins : List (Addr × Obj)) (s : Shared) (σ : St) (H : Hp) (o i : V) (ov iv : Value) (Q : VK), Inv X pins σ H s → RelV o ov → RelV i iv → t o i H Q →
    wpAny (model X.prog X.w) X.A (getItem ov iv) (EP X pins σ Q) X.xe s
theorem ps_augS {o i e : Expr} {to ti te : TE} {tget : V → V → Hp → VK → Prop} {tip : TIp} {tset : TSet} {op : Operator} {tpos : Pos} (ho : PE X o to) (hi : PE X i ti) (hg : PGet X tget) (he : PE X e te) (hp : PIp X op tip) (hs : PSet X tset)
    (ha : ∀ ov iv new, augStore i ov iv new = (do holding [new, ov, iv] (setItem ov iv new); release [new, ov, iv] []; pure .next) := by intros; rfl) : PS X (.AugAssign (.Subscript o i tpos) op e pos) (tAugS to ti te tget tip tset) := by
  intro pins s σ H D I h
  refine wpAny_AugAssign_SubscriptAny (thn (ho pins s σ H _ I h) fun ov s1 ⟨x1, H1, I1, r1, q1⟩ => ?_) ha
  refine thn (hi pins s1 σ H1 _ I1 q1) fun iv s2 ⟨x2, H2, I2, r2, q2⟩ => ?_
  refine thn (hg pins s2 σ H2 x1 x2 ov iv _ I2 r1 r2 q2) fun old s3 ⟨x3, H3, I3, r3, q3⟩ => ?_
  refine thn (he pins s3 σ H3 _ I3 q3) fun v s4 ⟨x4, H4, I4, r4, q4⟩ => ?_
  refine thn (hp pins s4 σ H4 x3 x4 old v _ I4 r3 r4 q4) fun new s5 ⟨x5, H5, I5, r5, q5⟩ => ?_
  exact thn (hs pins s5 σ H5 x1 x2 x5 ov iv new _ I5 r1 r2 r5 q5) fun _ s6 ⟨H6, I6, q6⟩ => ⟨σ, H6, I6, q6⟩
def ipI (f : Int → Int → Int) : TIp := fun x y H Q => ∃ i j, x = .int i ∧ y = .int j ∧ Q (.int (f i j)) H
theorem ip_add : PIp X .Add (ipI fun i j => i + j) := by
  intro pins s σ H x y v u Q I r1 r2 h
  obtain ⟨i, j, e1, e2, q⟩ := h
  subst e1; subst e2
  obtain ⟨t, rfl⟩ := r1
  obtain ⟨t', rfl⟩ := r2
  exact iadd_int ⟨.int _, H, I.tok _, ⟨_, rfl⟩, q⟩
theorem ip_sub : PIp X .Sub (ipI fun i j => i - j) := by
  intro pins s σ H x y v u Q I r1 r2 h
  obtain ⟨i, j, e1, e2, q⟩ := h
  subst e1; subst e2
  obtain ⟨t, rfl⟩ := r1
  obtain ⟨t', rfl⟩ := r2
  exact isub_int ⟨.int _, H, I.tok _, ⟨_, rfl⟩, q⟩
end
section
variable {X : Cx} {pos : Pos}
def tWhile (c : TT) (tb : TS) : TS := fun D σ H => ∃ W : Nat → St → Hp → Prop, (∃ m, W m σ H) ∧ ∀ m σ H, W m σ H →
  c σ H fun b H1 => if b = true then ∃ N : St → Hp → Prop, (∀ σ' H', N σ' H' → ∃ m', m' < m ∧ W m' σ' H') ∧ tb { D with nx := N, ct := N, bk := D.nx } σ H1 else D.nx σ H1
theorem ps_while {c : Expr} {body : List Stmt} {tc : TT} {tb : TS} (hp : PassesOwn (model X.prog X.w) X.A X.env X.xe) (hc : PT X c tc) (hb : PSs X body tb) : PS X (.While c body [] pos) (tWhile tc tb) := by
  intro pins s σ H D I h
  obtain ⟨W, ⟨m0, w0⟩, turn⟩ := h
  refine wpAny_While (codeAny_whileLoop (fun n s' => ∃ σ' H', Inv X pins σ' H' s' ∧ W n σ' H') ?_ m0 ⟨σ, H, I, w0⟩)
  rintro n s1 ⟨σ1, H1, I1, w1⟩
  refine wpAny_passesOwn hp (thn (hc pins s1 σ1 H1 _ I1 (turn n σ1 H1 w1)) fun b s2 ⟨H2, I2, q2⟩ => ?_)
  cases b with
  | true =>
    obtain ⟨N, hN, q2⟩ := q2
    rw [if_pos rfl]
    refine wpAny_passesOwn hp (thn (hb pins s2 σ1 H2 _ I2 q2) fun f s3 q3 => ?_)
    cases f with
    | next =>
      obtain ⟨σ3, H3, I3, n3⟩ := q3
      obtain ⟨m', hm, w3⟩ := hN σ3 H3 n3
      exact ⟨m', hm, σ3, H3, I3, w3⟩
    | cont =>
      obtain ⟨σ3, H3, I3, n3⟩ := q3
      obtain ⟨m', hm, w3⟩ := hN σ3 H3 n3
      exact ⟨m', hm, σ3, H3, I3, w3⟩
    | brk => exact q3
    | ret v => exact q3
  | false =>
    rw [if_neg Bool.false_ne_true]
    exact wpAny_execs_nil ⟨σ1, H2, I2, q2⟩
end
structure It where
  go : Nat → Hp → Prop
  yld : Nat → Hp → V → Hp → Prop
  stop : Nat → Hp → Prop
def FpOk (X : Cx) (pins : List (Addr × Obj)) (H : Hp) (b : Addr) : Prop :=
  H b = none ∧ b ≠ X.env.locals ∧ b ∉ X.fs ∧ (b ∈ X.ex ∨ X.s₀.heap.objs.size ≤ b) ∧ (∀ x c, X.env.cells.lookup x = some c → c ≠ b) ∧ ∀ p ∈ X.pn ++ pins, p.1 ≠ b
theorem Inv.fpOk {X : Cx} {pins : List (Addr × Obj)} {σ : St} {H H' : Hp} {s : Shared} {b : Addr} (I : Inv X pins σ H s) (hb : s.heap.objs.size ≤ b) (hn : H' b = none) : FpOk X pins H' b := by
  refine ⟨hn, Nat.ne_of_gt (Nat.lt_of_lt_of_le I.lt hb), I.nofs hb, .inr (Nat.le_trans I.sz hb), fun x c e z => ?_, fun p hp z => ?_⟩
  · obtain ⟨v, q⟩ := I.cell x c e
    exact absurd (Nat.lt_of_lt_of_le q.lt (by rw [z]; exact hb)) (Nat.lt_irrefl _)
  · exact absurd (Nat.lt_of_lt_of_le (Heap.lt_size (I.pin p hp).1) (by rw [z]; exact hb)) (Nat.lt_irrefl _)
structure Turn (P : Program) (w : World) (K : PySem.W.Frag) (tg : Expr) (J : It) (fp : List Addr) (it : Addr) (tn : Nat → Heap → Prop) : Prop where
  mem : it ∈ fp
  obj : ∀ i h, tn i h → ∀ b ∈ fp, ∃ o, h.get? b = some o ∧ ∀ v, o.data ≠ .cell v
  keep : ∀ i h h', tn i h → (∀ b ∈ fp, ∀ o, h.get? b = some o → h'.get? b = some o) → tn i h'
  item : ∀ (X : Cx), X.prog = P → X.w = w → X.K = K → X.calm = true → ∀ (i : Nat) (pins : List (Addr × Obj)) (s : Shared) (σ : St) (H : Hp) (E : Value → Shared → Prop), Inv X pins σ H s → (∀ b ∈ fp, FpOk X pins H b) → tn i s.heap → J.go i H →
    wpAny (model P w) X.A (pyNext (.ref it)) (fun r s1 => ∃ u, r = some u ∧
      wpAny (model P w) X.A (letOwnedTupleGo tg (.ref it) u) (fun _ s2 => ∃ x H', Inv X pins σ H' s2 ∧ RelV x u ∧ J.yld i H x H' ∧ tn (i + 1) s2.heap ∧ ∀ b ∈ fp, H' b = none) E s1) E s
  done : ∀ (X : Cx), X.prog = P → X.w = w → X.K = K → X.calm = true → ∀ (i : Nat) (pins : List (Addr × Obj)) (s : Shared) (σ : St) (H : Hp) (E : Value → Shared → Prop), Inv X pins σ H s → (∀ b ∈ fp, FpOk X pins H b) → tn i s.heap → J.stop i H →
    wpAny (model P w) X.A (pyNext (.ref it)) (fun r s1 => r = none ∧ Inv X pins σ H s1) E s
  self : ∀ (A : Around) (i : Nat) (s : Shared) (Q : Value → Shared → Prop) (E : Value → Shared → Prop), tn i s.heap → Q (.ref it) s → wpAny (model P w) A (pyIter (.ref it)) Q E s
abbrev TI := St → Hp → (It → Hp → Prop) → Prop
def PIE (X : Cx) (pins : List (Addr × Obj)) (σ : St) (tg : Expr) (R : It → Hp → Prop) (itv : Value) (s2 : Shared) : Prop :=
  ∃ (it : Addr) (fp : List Addr) (tn : Nat → Heap → Prop) (J : It) (H' : Hp), itv = .ref it ∧ Inv X pins σ H' s2 ∧ Turn X.prog X.w X.K tg J fp it tn ∧ tn 0 s2.heap ∧ (∀ b ∈ fp, FpOk X pins H' b) ∧ R J H'
def PI (X : Cx) (tg iter : Expr) (wi : TI) : Prop :=
  ∀ (pins : List (Addr × Obj)) (s : Shared) (σ : St) (H : Hp) (R : It → Hp → Prop), Inv X pins σ H s → wi σ H R →
    wpAny (model X.prog X.w) X.A (eval iter X.env) (fun v s1 => wpAny (model X.prog X.w) X.A (pyIter v) (PIE X pins σ tg R) X.xe s1) X.xe s
theorem go_of {M : Model} {A : Around} {E : Value → Shared → Prop} {s : Shared} {tg : Expr} {it : Addr} {u : Value} {o : Obj} {n : String} {vs : Array Value} {Q : Unit → Shared → Prop} (ho : s.heap.get? it = some o) (hc : o.cls = .type n) (hd : o.data = .fields vs)
    (hn : ["enumerate", "zip", "dict_itemiterator", "dict_reverseitemiterator", "odict_iterator", "itertools.zip_longest", "itertools.pairwise"].contains n = false) (hQ : Q () s) : wpAny M A (letOwnedTupleGo tg (.ref it) u) Q E s := by
  unfold letOwnedTupleGo
  cases tg <;> first
    | exact wpAny_pure hQ
    | (cases u <;> first
        | exact wpAny_pure hQ
        | (refine wpAny_bind (wpAny_load ho ?_)
           rw [hc, hd]
           show wpAny M A (if (["enumerate", "zip", "dict_itemiterator", "dict_reverseitemiterator", "odict_iterator", "itertools.zip_longest", "itertools.pairwise"].contains n && vs[0]? == some (rawInt _)) = true then _ else _) Q E s
           rw [if_neg (by intro h; rw [hn, Bool.false_and] at h; cases h)]
           exact wpAny_pure hQ))
def Itl (K : PySem.W.Frag) (a : Addr) : It :=
  ⟨fun i H => ∃ xs x, SqL K H a xs ∧ xs[i]? = some x, fun i H x H' => H' = H ∧ ∀ xs, SqL K H a xs → xs[i]? = some x, fun i H => ∃ xs, SqL K H a xs ∧ xs.length ≤ i⟩
def Itt (K : PySem.W.Frag) (a : Addr) : It :=
  ⟨fun i H => ∃ xs x, SqT K H a xs ∧ xs[i]? = some x, fun i H x H' => H' = H ∧ ∀ xs, SqT K H a xs → xs[i]? = some x, fun i H => ∃ xs, SqT K H a xs ∧ xs.length ≤ i⟩
def Itr (lo : Int) (n : Nat) : It := ⟨fun i _ => i < n, fun i H x H' => H' = H ∧ x = .int (lo + i), fun i _ => n ≤ i⟩
theorem turn_list {P : Program} {w : World} {K : PySem.W.Frag} {tg : Expr} (a it : Addr) : Turn P w K tg (Itl K a) [it] it (fun i h => h.IsListIter it a i) where
  mem := by simp
  obj := fun i h st b hb => by
    have e : b = it := by simpa using hb
    subst e
    obtain ⟨o, e, c, d⟩ := st
    exact ⟨o, e, fun v z => by rw [d] at z; cases z⟩
  keep := fun i h h' st k => st.at fun o e => k it (by simp) o e
  item := by
    intro X hP hw hK hc i pins s σ H E I hf st hg
    subst hP hw hK
    obtain ⟨xs, x, hq, hx⟩ := hg
    obtain ⟨its, rv, p, hz⟩ := I.list hq
    obtain ⟨u, hu, ru⟩ := rv.get hx
    obtain ⟨f0, f1, f2, f3, f4, f5⟩ := hf it (by simp)
    refine wpAny_pyNext_list_item st p.isList (x := u) (by simpa using hu) fun h' st' sb => ?_
    have I1 : Inv X pins σ H { s with heap := h' } := I.turned (t' := s.toks) (fun b o hb e => (sb.2 b hb).trans e) f0 f1 f3 f4 f5
    obtain ⟨o, e, c, d⟩ := id st'
    exact ⟨u, rfl, go_of (s := { s with heap := h' }) e c d (by decide) ⟨x, H, I1, ru, ⟨rfl, fun ys hy => by rw [I.list_inj hy hq]; exact hx⟩, st', fun b hb => (hf b hb).1⟩⟩
  done := by
    intro X hP hw hK hc i pins s σ H E I hf st hg
    subst hP hw hK
    obtain ⟨xs, hq, hx⟩ := hg
    obtain ⟨its, rv, p, hz⟩ := I.list hq
    obtain ⟨f0, f1, f2, f3, f4, f5⟩ := hf it (by simp)
    have hl := rv.length
    exact wpAny_pyNext_list_end (I.ok.hd hc) st p.isList (by simp; omega) fun h' eb => ⟨rfl, I.turned (t' := s.toks) (fun b o hb e => eb b o hb e) f0 f1 f3 f4 f5⟩
  self := fun _ _ _ _ _ st h => wpAny_pyIter_listiter st h
theorem turn_tuple {P : Program} {w : World} {K : PySem.W.Frag} {tg : Expr} (a it : Addr) : Turn P w K tg (Itt K a) [it] it (fun i h => h.IsTupleIter it a i) where
  mem := by simp
  obj := fun i h st b hb => by
    have e : b = it := by simpa using hb
    subst e
    obtain ⟨o, e, c, d⟩ := st
    exact ⟨o, e, fun v z => by rw [d] at z; cases z⟩
  keep := fun i h h' st k => st.at fun o e => k it (by simp) o e
  item := by
    intro X hP hw hK hc i pins s σ H E I hf st hg
    subst hP hw hK
    obtain ⟨xs, x, hq, hx⟩ := hg
    obtain ⟨its, rv, p, hz⟩ := I.tuple hq
    obtain ⟨u, hu, ru⟩ := rv.get hx
    obtain ⟨f0, f1, f2, f3, f4, f5⟩ := hf it (by simp)
    refine wpAny_pyNext_tuple_item st (show s.heap.IsTuple a its.toArray from p) (x := u) (by simpa using hu) fun h' st' sb => ?_
    have I1 : Inv X pins σ H { s with heap := h' } := I.turned (t' := s.toks) (fun b o hb e => (sb.2 b hb).trans e) f0 f1 f3 f4 f5
    obtain ⟨o, e, c, d⟩ := id st'
    exact ⟨u, rfl, go_of (s := { s with heap := h' }) e c d (by decide) ⟨x, H, I1, ru, ⟨rfl, fun ys hy => by rw [I.tuple_inj hy hq]; exact hx⟩, st', fun b hb => (hf b hb).1⟩⟩
  done := by
    intro X hP hw hK hc i pins s σ H E I hf st hg
    subst hP hw hK
    obtain ⟨xs, hq, hx⟩ := hg
    obtain ⟨its, rv, p, hz⟩ := I.tuple hq
    obtain ⟨f0, f1, f2, f3, f4, f5⟩ := hf it (by simp)
    have hl := rv.length
    exact wpAny_pyNext_tuple_end (I.ok.hd hc) st (show s.heap.IsTuple a its.toArray from p) (by simp; omega) fun h' eb => ⟨rfl, I.turned (t' := s.toks) (fun b o hb e => eb b o hb e) f0 f1 f3 f4 f5⟩
  self := fun _ _ _ _ _ st h => wpAny_pyIter_tupleiter st h
theorem turn_range {P : Program} {w : World} {K : PySem.W.Frag} {tg : Expr} (it : Addr) (lo : Int) (n : Nat) : Turn P w K tg (Itr lo n) [it] it (fun i h => IsRangeIter h it (lo + (i : Nat) * 1) ((n : Int) - (i : Nat)) 1) where
  mem := by simp
  obj := fun i h st b hb => by
    have e : b = it := by simpa using hb
    subst e
    exact ⟨_, st, fun v z => by
      have z' : Data.fields _ = Data.cell v := z
      cases z'⟩
  keep := fun i h h' st k => k it (by simp) _ st
  item := by
    intro X hP hw hK hc i pins s σ H E I hf st hg
    subst hP hw hK
    obtain ⟨f0, f1, f2, f3, f4, f5⟩ := hf it (by simp)
    have W := Walks.range (prog := X.prog) (w := X.w) (I.ok.hd hc) it lo 1 n
    refine W.item i s _ _ hg st fun v h' tk hv st' kk => ?_
    obtain ⟨t, rfl⟩ := hv
    have I1 : Inv X pins σ H { s with heap := h', toks := tk } := I.turned (fun b o hb e => kk b o (by simpa using hb) e) f0 f1 f3 f4 f5
    refine ⟨_, rfl, go_of (s := { s with heap := h', toks := tk }) (n := "range_iterator") st' rfl rfl (by decide) ⟨.int (lo + i), H, I1, ⟨t, ?_⟩, ⟨rfl, rfl⟩, st', fun b hb => (hf b hb).1⟩⟩
    rw [Int.mul_one]
  done := by
    intro X hP hw hK hc i pins s σ H E I hf st hg
    subst hP hw hK
    obtain ⟨f0, f1, f2, f3, f4, f5⟩ := hf it (by simp)
    exact wpAny_pyNext_range_end (I.ok.hd hc) st (by have : n ≤ i := hg; omega) fun h' eb => ⟨rfl, I.turned (t' := s.toks) (fun b o hb e => eb b o hb e) f0 f1 f3 f4 f5⟩
  self := fun _ _ _ _ _ st h => wpAny_pyIter_rangeiter st h
end L2
namespace L2
open PySem PySem.Spec PyProof.Rows
section
variable {X : Cx} {tg : Expr}
def iList (K : PySem.W.Frag) (tl : TE) : TI := fun σ H R => tl σ H fun x H1 => ∃ a, x = .ref a ∧ (∃ xs, SqL K H1 a xs) ∧ R (Itl K a) H1
def iTup (K : PySem.W.Frag) (tl : TE) : TI := fun σ H R => tl σ H fun x H1 => ∃ a, x = .ref a ∧ (∃ xs, SqT K H1 a xs) ∧ R (Itt K a) H1
theorem pi_list {l : Expr} {tl : TE} (hl : PE X l tl) : PI X tg l (iList X.K tl) := by
  intro pins s σ H R I h
  refine thn (hl pins s σ H _ I h) fun v s1 ⟨x, H1, I1, r1, q1⟩ => ?_
  obtain ⟨a, e, ⟨xs, hq⟩, q⟩ := q1
  subst e
  cases r1
  obtain ⟨its, rv, p, hz⟩ := I1.list hq
  refine wpAny_pyIter_list p.isList ?_
  refine ⟨s1.heap.objs.size, [s1.heap.objs.size], _, _, H1, rfl, I1.kept (t' := s1.toks) fun b o e => Heap.get?_push_of_some _ e, turn_list a _, ⟨_, Heap.get?_push_size _ rfl, rfl, rfl⟩, fun b hb => ?_, q⟩
  have e : b = s1.heap.objs.size := by simpa using hb
  subst e
  exact I1.fpOk (Nat.le_refl _) (I1.hok.fresh (Nat.le_refl _))
theorem pi_tup {l : Expr} {tl : TE} (hl : PE X l tl) : PI X tg l (iTup X.K tl) := by
  intro pins s σ H R I h
  refine thn (hl pins s σ H _ I h) fun v s1 ⟨x, H1, I1, r1, q1⟩ => ?_
  obtain ⟨a, e, ⟨xs, hq⟩, q⟩ := q1
  subst e
  cases r1
  obtain ⟨its, rv, p, hz⟩ := I1.tuple hq
  refine wpAny_pyIter_tuple (show s1.heap.IsTuple a its.toArray from p) ?_
  refine ⟨s1.heap.objs.size, [s1.heap.objs.size], _, _, H1, rfl, I1.kept (t' := s1.toks) fun b o e => Heap.get?_push_of_some _ e, turn_tuple a _, ⟨_, Heap.get?_push_size _ rfl, rfl, rfl⟩, fun b hb => ?_, q⟩
  have e : b = s1.heap.objs.size := by simpa using hb
  subst e
  exact I1.fpOk (Nat.le_refl _) (I1.hok.fresh (Nat.le_refl _))
theorem range_it {pins : List (Addr × Obj)} {σ : St} {H : Hp} {s : Shared} {R : It → Hp → Prop} {E : Value → Shared → Prop} {lo hi : Int} {t u v : Tok} {tk : Nat} (I : Inv X pins σ H s) (h1 : -(2 ^ 62) ≤ lo) (h2 : lo < 2 ^ 62) (h3 : -(2 ^ 62) ≤ hi) (h4 : hi < 2 ^ 62)
    (q : R (Itr lo (hi - lo).toNat) H) : wpAny (model X.prog X.w) X.A (pyIter (.ref s.heap.objs.size)) (PIE X pins σ tg R) E { s with heap := s.heap.push { cls := .type "range", data := .fields #[.int lo t, .int hi u, .int 1 v] }, toks := tk } := by
  refine wpAny_pyIter_range (IsRange.new ..) (small_one h1 h2 h3 h4) ?_
  have I1 : Inv X pins σ H { s with heap := s.heap.push { cls := .type "range", data := .fields #[.int lo t, .int hi u, .int 1 v] }, toks := tk } := I.kept fun b o e => Heap.get?_push_of_some _ e
  refine ⟨(s.heap.push { cls := .type "range", data := .fields #[.int lo t, .int hi u, .int 1 v] }).objs.size, [(s.heap.push { cls := .type "range", data := .fields #[.int lo t, .int hi u, .int 1 v] }).objs.size], _, _, H, rfl,
    I1.kept (t' := tk) fun b o e => Heap.get?_push_of_some _ e, turn_range _ lo (hi - lo).toNat, ?_, fun b hb => ?_, q⟩
  · have e1 : lo + ((0 : Nat) : Int) * 1 = lo := by simp
    have e2 : (((hi - lo).toNat : Nat) : Int) - ((0 : Nat) : Int) = Builtin.Range.rangeSize lo hi 1 := by rw [rangeSize_one]; split <;> omega
    show IsRangeIter _ _ (lo + ((0 : Nat) : Int) * 1) ((((hi - lo).toNat : Nat) : Int) - ((0 : Nat) : Int)) 1
    rw [e1, e2]
    exact Heap.get?_push_size _ rfl
  · have e : b = (s.heap.push { cls := .type "range", data := .fields #[.int lo t, .int hi u, .int 1 v] }).objs.size := by simpa using hb
    subst e
    exact I1.fpOk (Nat.le_refl _) (I1.hok.fresh (Nat.le_refl _))
def iRng1 (ta : TA) : TI := fun σ H R => ta σ H fun vs H1 => ∃ j : Int, vs = [.int j] ∧ -(2 ^ 62) ≤ j ∧ j < 2 ^ 62 ∧ R (Itr 0 j.toNat) H1
def iRng2 (ta : TA) : TI := fun σ H R => ta σ H fun vs H1 => ∃ i j : Int, vs = [.int i, .int j] ∧ (-(2 ^ 62) ≤ i ∧ i < 2 ^ 62 ∧ -(2 ^ 62) ≤ j ∧ j < 2 ^ 62) ∧ R (Itr i (j - i).toNat) H1
theorem pi_range1 {a : Expr} {ta : TA} {p pos : Pos} (hg : Gl X "range") (hm : X.mg "range" = none) (ha : PA X [a] ta) (hs : starEach [a] X.env = [(false, eval a X.env)] := by rfl) : PI X tg (.Call (.Name "range" p) [a] [] pos) (iRng1 ta) := by
  intro pins s σ H R I h
  refine Call_ (ld_blt I hg hm boot_range (PyProof.Rows.callWith_type1 (thn (ha pos pins s σ H _ I h) fun us s1 ⟨vs, H1, I1, r1, q1⟩ => ?_) hs rfl))
  obtain ⟨j, e, q1, q2, q⟩ := q1
  subst e
  cases r1 with
  | cons r rr =>
    cases rr
    obtain ⟨t, rfl⟩ := r
    exact call_range_1 (range_it I1 (by omega) (by omega) q1 q2 (by simpa using q))
theorem pi_range2 {a b : Expr} {ta : TA} {p pos : Pos} (hg : Gl X "range") (hm : X.mg "range" = none) (ha : PA X [a, b] ta) (hs : starEach [a, b] X.env = [(false, eval a X.env), (false, eval b X.env)] := by rfl) (hs2 : starEach [b] X.env = [(false, eval b X.env)] := by rfl) :
    PI X tg (.Call (.Name "range" p) [a, b] [] pos) (iRng2 ta) := by
  intro pins s σ H R I h
  refine Call_ (ld_blt I hg hm boot_range (PyProof.Rows.callWith_type1 (thn (ha pos pins s σ H _ I h) fun us s1 ⟨vs, H1, I1, r1, q1⟩ => ?_) (by rw [hs, hs2]) (by rw [hs2]; rfl)))
  obtain ⟨i, j, e, ⟨q1, q2, q3, q4⟩, q⟩ := q1
  subst e
  cases r1 with
  | cons r rr =>
    cases rr with
    | cons r' rr =>
      cases rr
      obtain ⟨t, rfl⟩ := r
      obtain ⟨t', rfl⟩ := r'
      exact call_range_2 (range_it I1 q1 q2 q3 q4 q)
def tFor (wi : TI) (g : TG) (tb : TS) : TS := fun D σ H => wi σ H fun J H1 => ∃ W : Nat → Nat → St → Hp → Prop, (∃ m, W 0 m σ H1) ∧ ∀ i m σ H, W i m σ H →
  (J.stop i H ∧ D.nx σ H) ∨ (J.go i H ∧ ∃ N : St → Hp → Prop, (∀ σ' H', N σ' H' → ∃ m', m' < m ∧ W (i + 1) m' σ' H') ∧ ∀ x H', J.yld i H x H' → g x σ H' fun σ2 H2 => tb { D with nx := N, ct := N, bk := D.nx } σ2 H2)
def pinsAt (fp : List Addr) (h : Heap) : List (Addr × Obj) := fp.filterMap fun b => (h.get? b).map fun o => (b, o)
theorem mem_pinsAt {fp : List Addr} {h : Heap} {b : Addr} {o : Obj} (hb : b ∈ fp) (e : h.get? b = some o) : (b, o) ∈ pinsAt fp h := List.mem_filterMap.mpr ⟨b, hb, by rw [e]; rfl⟩
theorem of_pinsAt {fp : List Addr} {h : Heap} {p : Addr × Obj} (hp : p ∈ pinsAt fp h) : p.1 ∈ fp ∧ h.get? p.1 = some p.2 := by
  obtain ⟨b, hb, e⟩ := List.mem_filterMap.mp hp
  cases q : h.get? b with
  | none => rw [q] at e; cases e
  | some o =>
    rw [q] at e
    have e' : (b, o) = p := Option.some.inj e
    subst e'
    exact ⟨hb, q⟩
theorem Inv.pinned {pins : List (Addr × Obj)} {σ : St} {H : Hp} {s : Shared} {fp : List Addr} (I : Inv X pins σ H s) (hf : ∀ b ∈ fp, FpOk X pins H b) (ho : ∀ b ∈ fp, ∃ o, s.heap.get? b = some o ∧ ∀ v, o.data ≠ .cell v) : Inv X (pins ++ pinsAt fp s.heap) σ H s :=
  I.pins_of fun p hp => (List.mem_append.mp hp).elim (fun z => I.pin p (List.mem_append_right _ z)) fun z => by
    obtain ⟨hb, e⟩ := of_pinsAt z
    obtain ⟨f0, f1, f2, _⟩ := hf p.1 hb
    obtain ⟨o, e', d⟩ := ho p.1 hb
    rw [e] at e'; cases e'
    exact ⟨e, f0, f1, f2, d⟩
theorem Inv.unpinned {pins pl : List (Addr × Obj)} {σ : St} {H : Hp} {s : Shared} (I : Inv X (pins ++ pl) σ H s) : Inv X pins σ H s := I.pins_of fun p hp => I.pin p (List.mem_append_right _ (List.mem_append_left _ hp))
theorem ps_for {iter : Expr} {body : List Stmt} {wi : TI} {g : TG} {tb : TS} {pos : Pos} (hp : PassesOwn (model X.prog X.w) X.A X.env X.xe) (hc : X.calm = true) (hi : PI X tg iter wi) (hg : PG X tg g) (hb : PSs X body tb)
    (hs : ∀ x, foldedSetIterable iter X.env x = pure x := by intro _; rfl) : PS X (.For tg iter body [] pos) (tFor wi g tb) := by
  intro pins s σ H D I h
  refine wpAny_For (thn (hi pins s σ H _ I h) fun v s1 h1 => thn h1 fun itv s2 h2 => ?_) hs
  obtain ⟨it, fp, tn, J, H2, e, I2, T, st2, f2, W, ⟨m0, w0⟩, turn⟩ := h2
  subst e
  have stat : ∀ {H' : Hp}, (∀ b ∈ fp, H' b = none) → ∀ b ∈ fp, FpOk X pins H' b := fun hn b hb => ⟨hn b hb, (f2 b hb).2⟩
  refine codeAny_forLoop_any (fun n s' => ∃ i σ' H', Inv X pins σ' H' s' ∧ tn i s'.heap ∧ (∀ b ∈ fp, H' b = none) ∧ W i n σ' H') ?_ m0 ⟨0, σ, H2, I2, st2, fun b hb => (f2 b hb).1, w0⟩
  rintro n s3 ⟨i, σ3, H3, I3, st3, fr3, w3⟩
  rcases turn i n σ3 H3 w3 with ⟨stop, qn⟩ | ⟨go, N, hN, step⟩
  · refine wpAny_passesOwn hp (thn (T.done X rfl rfl rfl hc i pins s3 σ3 H3 X.xe I3 (stat fr3) st3 stop) fun r s4 ⟨hr, I4⟩ => ?_)
    subst hr
    exact wpAny_execs_nil ⟨σ3, H3, I4, qn⟩
  · refine wpAny_passesOwn hp (thn (T.item X rfl rfl rfl hc i pins s3 σ3 H3 X.xe I3 (stat fr3) st3 go) fun r s4 ⟨u, hr, h4⟩ => ?_)
    subst hr
    refine wpAny_passesOwn hp (thn h4 fun _ s5 ⟨x, H5, I5, r5, y5, st5, fr5⟩ => ?_)
    have I5' := I5.pinned (stat fr5) (T.obj _ _ st5)
    refine wpAny_passesOwn hp (thn (hg _ s5 σ3 H5 x u _ I5' r5 (step x H5 y5)) fun _ s6 ⟨σ6, H6, I6, q6⟩ => ?_)
    refine wpAny_passesOwn hp (thn (hb _ s6 σ6 H6 _ I6 q6) fun f s7 q7 => ?_)
    have again : ∀ {σ7 : St} {H7 : Hp}, Inv X (pins ++ pinsAt fp s5.heap) σ7 H7 s7 → N σ7 H7 → ∃ m, m < n ∧ ∃ i σ' H', Inv X pins σ' H' s7 ∧ tn i s7.heap ∧ (∀ b ∈ fp, H' b = none) ∧ W i m σ' H' := fun {σ7 H7} I7 n7 => by
      obtain ⟨m', hm, w7⟩ := hN σ7 H7 n7
      refine ⟨m', hm, i + 1, σ7, H7, I7.unpinned, T.keep _ _ _ st5 fun b hb o e => (I7.pin (b, o) (List.mem_append_right _ (List.mem_append_right _ (mem_pinsAt hb e)))).1, fun b hb => ?_, w7⟩
      obtain ⟨o, e, d⟩ := T.obj _ _ st5 b hb
      exact (I7.pin (b, o) (List.mem_append_right _ (List.mem_append_right _ (mem_pinsAt hb e)))).2.1
    cases f with
    | next => obtain ⟨σ7, H7, I7, n7⟩ := q7; exact again I7 n7
    | cont => obtain ⟨σ7, H7, I7, n7⟩ := q7; exact again I7 n7
    | brk => obtain ⟨σ7, H7, I7, q7⟩ := q7; exact ⟨σ7, H7, I7.unpinned, q7⟩
    | ret v => obtain ⟨x7, σ7, H7, I7, r7, q7⟩ := q7; exact ⟨x7, σ7, H7, I7.unpinned, r7, q7⟩
end
theorem for_list {K : PySem.W.Frag} {a : Addr} {xs : List V} {g : TG} {tb : TS} {D : Ends} {σ : St} {H : Hp} (Pv : Nat → St → Hp → Prop) (h0 : Pv 0 σ H) (hl : ∀ i σ H, i ≤ xs.length → Pv i σ H → SqL K H a xs)
    (hs : ∀ i x σ H, xs[i]? = some x → Pv i σ H → g x σ H fun σ2 H2 => tb { D with nx := Pv (i + 1), ct := Pv (i + 1), bk := D.nx } σ2 H2) (hd : ∀ σ H, Pv xs.length σ H → D.nx σ H) :
    ∃ W : Nat → Nat → St → Hp → Prop, (∃ m, W 0 m σ H) ∧ ∀ i m σ H, W i m σ H →
      ((Itl K a).stop i H ∧ D.nx σ H) ∨ ((Itl K a).go i H ∧ ∃ N : St → Hp → Prop, (∀ σ' H', N σ' H' → ∃ m', m' < m ∧ W (i + 1) m' σ' H') ∧ ∀ x H', (Itl K a).yld i H x H' → g x σ H' fun σ2 H2 => tb { D with nx := N, ct := N, bk := D.nx } σ2 H2) := by
  refine ⟨fun i m σ H => m = xs.length - i ∧ i ≤ xs.length ∧ Pv i σ H, ⟨xs.length, by simp, Nat.zero_le _, h0⟩, ?_⟩
  rintro i m σ H ⟨rfl, hi, p⟩
  have q := hl i σ H hi p
  by_cases hlt : i < xs.length
  · refine .inr ⟨⟨xs, xs[i], q, by simp [hlt]⟩, Pv (i + 1), fun σ' H' p' => ⟨xs.length - (i + 1), by omega, rfl, hlt, p'⟩, fun x H' y => ?_⟩
    obtain ⟨e, y⟩ := y
    subst e
    exact hs i x σ _ (y xs q) p
  · have e : i = xs.length := by omega
    subst e
    exact .inl ⟨⟨xs, q, Nat.le_refl _⟩, hd σ H p⟩
theorem for_tup {K : PySem.W.Frag} {a : Addr} {xs : List V} {g : TG} {tb : TS} {D : Ends} {σ : St} {H : Hp} (Pv : Nat → St → Hp → Prop) (h0 : Pv 0 σ H) (hl : ∀ i σ H, i ≤ xs.length → Pv i σ H → SqT K H a xs)
    (hs : ∀ i x σ H, xs[i]? = some x → Pv i σ H → g x σ H fun σ2 H2 => tb { D with nx := Pv (i + 1), ct := Pv (i + 1), bk := D.nx } σ2 H2) (hd : ∀ σ H, Pv xs.length σ H → D.nx σ H) :
    ∃ W : Nat → Nat → St → Hp → Prop, (∃ m, W 0 m σ H) ∧ ∀ i m σ H, W i m σ H →
      ((Itt K a).stop i H ∧ D.nx σ H) ∨ ((Itt K a).go i H ∧ ∃ N : St → Hp → Prop, (∀ σ' H', N σ' H' → ∃ m', m' < m ∧ W (i + 1) m' σ' H') ∧ ∀ x H', (Itt K a).yld i H x H' → g x σ H' fun σ2 H2 => tb { D with nx := N, ct := N, bk := D.nx } σ2 H2) := by
  refine ⟨fun i m σ H => m = xs.length - i ∧ i ≤ xs.length ∧ Pv i σ H, ⟨xs.length, by simp, Nat.zero_le _, h0⟩, ?_⟩
  rintro i m σ H ⟨rfl, hi, p⟩
  have q := hl i σ H hi p
  by_cases hlt : i < xs.length
  · refine .inr ⟨⟨xs, xs[i], q, by simp [hlt]⟩, Pv (i + 1), fun σ' H' p' => ⟨xs.length - (i + 1), by omega, rfl, hlt, p'⟩, fun x H' y => ?_⟩
    obtain ⟨e, y⟩ := y
    subst e
    exact hs i x σ _ (y xs q) p
  · have e : i = xs.length := by omega
    subst e
    exact .inl ⟨⟨xs, q, Nat.le_refl _⟩, hd σ H p⟩
theorem for_range {lo : Int} {n : Nat} {g : TG} {tb : TS} {D : Ends} {σ : St} {H : Hp} (Pv : Nat → St → Hp → Prop) (h0 : Pv 0 σ H)
    (hs : ∀ i σ H, i < n → Pv i σ H → g (.int (lo + i)) σ H fun σ2 H2 => tb { D with nx := Pv (i + 1), ct := Pv (i + 1), bk := D.nx } σ2 H2) (hd : ∀ σ H, Pv n σ H → D.nx σ H) :
    ∃ W : Nat → Nat → St → Hp → Prop, (∃ m, W 0 m σ H) ∧ ∀ i m σ H, W i m σ H →
      ((Itr lo n).stop i H ∧ D.nx σ H) ∨ ((Itr lo n).go i H ∧ ∃ N : St → Hp → Prop, (∀ σ' H', N σ' H' → ∃ m', m' < m ∧ W (i + 1) m' σ' H') ∧ ∀ x H', (Itr lo n).yld i H x H' → g x σ H' fun σ2 H2 => tb { D with nx := N, ct := N, bk := D.nx } σ2 H2) := by
  refine ⟨fun i m σ H => m = n - i ∧ i ≤ n ∧ Pv i σ H, ⟨n, by simp, Nat.zero_le _, h0⟩, ?_⟩
  rintro i m σ H ⟨rfl, hi, p⟩
  by_cases hlt : i < n
  · refine .inr ⟨hlt, Pv (i + 1), fun σ' H' p' => ⟨n - (i + 1), by omega, rfl, hlt, p'⟩, fun x H' y => ?_⟩
    obtain ⟨e, y⟩ := y
    subst e y
    exact hs i σ _ hlt p
  · have e : i = n := by omega
    subst e
    exact .inl ⟨Nat.le_refl _, hd σ H p⟩
theorem while_by {c : TT} {tb : TS} {D : Ends} {σ : St} {H : Hp} (Pv : St → Hp → Prop) (μ : St → Hp → Nat) (h0 : Pv σ H)
    (hs : ∀ σ H, Pv σ H → c σ H fun b H1 => if b = true then tb { D with nx := fun σ' H' => Pv σ' H' ∧ μ σ' H' < μ σ H, ct := fun σ' H' => Pv σ' H' ∧ μ σ' H' < μ σ H, bk := D.nx } σ H1 else D.nx σ H1)
    (mono : ∀ σ H Q Q', (∀ b H1, Q b H1 → Q' b H1) → c σ H Q → c σ H Q') : tWhile c tb D σ H := by
  refine ⟨fun m σ H => m = μ σ H ∧ Pv σ H, ⟨_, rfl, h0⟩, ?_⟩
  rintro m σ H ⟨rfl, p⟩
  refine mono σ H _ _ (fun b H1 q => ?_) (hs σ H p)
  cases b with
  | true => exact ⟨_, fun σ' H' ⟨p', l⟩ => ⟨_, l, rfl, p'⟩, q⟩
  | false => exact q
end L2
namespace L2
open PySem PySem.Spec PyProof.Rows
abbrev R2 := V → V → Hp → VK → Prop
def OpR (X : Cx) (f : Value → Value → Sem Value) (r : R2) : Prop :=
  ∀ (pins : List (Addr × Obj)) (s : Shared) (σ : St) (H : Hp) (x y : V) (v u : Value) (Q : VK), Inv X pins σ H s → RelV x v → RelV y u → r x y H Q →
    wpAny (model X.prog X.w) X.A (f v u) (EP X pins σ Q) X.xe s
def UnR (X : Cx) (f : Value → Sem Value) (r : V → Hp → VK → Prop) : Prop :=
  ∀ (pins : List (Addr × Obj)) (s : Shared) (σ : St) (H : Hp) (x : V) (v : Value) (Q : VK), Inv X pins σ H s → RelV x v → r x H Q →
    wpAny (model X.prog X.w) X.A (f v) (EP X pins σ Q) X.xe s
def CallR (X : Cx) (f : Value) (r : List V → Hp → VK → Prop) : Prop :=
  ∀ (pins : List (Addr × Obj)) (s : Shared) (σ : St) (H : Hp) (xs : List V) (us : List Value) (Q : VK), Inv X pins σ H s → Vals xs us → r xs H Q →
    wpAny (model X.prog X.w) X.A (call f us) (EP X pins σ Q) X.xe s
def TruR (X : Cx) (r : V → Hp → (Bool → Hp → Prop) → Prop) : Prop :=
  ∀ (pins : List (Addr × Obj)) (s : Shared) (σ : St) (H : Hp) (x : V) (v : Value) (Q : Bool → Hp → Prop), Inv X pins σ H s → RelV x v → r x H Q →
    wpAny (model X.prog X.w) X.A (truthy v) (TP X pins σ Q) X.xe s
def tOp (r : R2) (ta tb : TE) : TE := fun σ H Q => ta σ H fun x H1 => tb σ H1 fun y H2 => r x y H2 Q
def tUn (r : V → Hp → VK → Prop) (ta : TE) : TE := fun σ H Q => ta σ H fun x H1 => r x H1 Q
def rI (C : Int → Int → Prop) (g : Int → Int → V) : R2 := fun x y H Q => ∃ i j, x = .int i ∧ y = .int j ∧ C i j ∧ Q (g i j) H
def rI0 (g : Int → Int → V) : R2 := fun x y H Q => ∃ i j, x = .int i ∧ y = .int j ∧ Q (g i j) H
def rU (g : Int → V) : V → Hp → VK → Prop := fun x H Q => ∃ i, x = .int i ∧ Q (g i) H
section
variable {X : Cx} {a b c : Expr} {ta tb tc : TE} {pos : Pos}
theorem binT (ha : PE X a ta) (hb : PE X b tb) {pins : List (Addr × Obj)} {s : Shared} {σ : St} {H : Hp} {R : V → V → Hp → Prop} (I : Inv X pins σ H s)
    (h : ta σ H fun x H1 => tb σ H1 fun y H2 => R x y H2) {Q : Value → Shared → Prop} {f : Value → Value → Sem Value}
    (hf : ∀ v u s2 x y H2, Inv X pins σ H2 s2 → RelV x v → RelV y u → R x y H2 → wpAny (model X.prog X.w) X.A (f v u) Q X.xe s2) :
    wpAny (model X.prog X.w) X.A (eval a X.env) (fun v s₁ => wpAny (model X.prog X.w) X.A (eval b X.env) (fun u s₂ => wpAny (model X.prog X.w) X.A (f v u) Q X.xe s₂) X.xe s₁) X.xe s := by
  refine thn (ha pins s σ H _ I h) fun v s1 ⟨x, H1, I1, r1, q1⟩ => ?_
  refine thn (hb pins s1 σ H1 _ I1 q1) fun u s2 ⟨y, H2, I2, r2, q2⟩ => ?_
  exact hf v u s2 x y H2 I2 r1 r2 q2
theorem pe_op {op : Operator} {r : R2} (ho : OpR X (binaryOp op) r) (ha : PE X a ta) (hb : PE X b tb) : PE X (.BinOp a op b pos) (tOp r ta tb) := by
  intro pins s σ H Q I h
  exact wpAny_BinOp (binT ha hb I h fun v u s2 x y H2 I2 rx ry q => ho pins s2 σ H2 x y v u Q I2 rx ry q)
theorem pe_un {op : UnaryOp} {r : V → Hp → VK → Prop} (ho : UnR X (unaryOp op) r) (ha : PE X a ta) : PE X (.UnaryOp op a pos) (tUn r ta) := by
  intro pins s σ H Q I h
  exact UnaryOp_ (thn (ha pins s σ H _ I h) fun v s1 ⟨x, H1, I1, r1, q1⟩ => ho pins s1 σ H1 x v Q I1 r1 q1)
theorem augR {op : Operator} {r : R2} (ho : OpR X (inplaceOp op) r) {pins : List (Addr × Obj)} {s : Shared} {σ : St} {H : Hp} {x y : V} {v u : Value} {Q : VK} (I : Inv X pins σ H s)
    (rx : RelV x v) (ry : RelV y u) (q : r x y H Q) : wpAny (model X.prog X.w) X.A (inplaceOp op v u) (EP X pins σ Q) X.xe s := ho pins s σ H x y v u Q I rx ry q
theorem opI {f : Value → Value → Sem Value} {C : Int → Int → Prop} {g : Int → Int → Int}
    (rule : ∀ (i j : Int) (t u : Tok) (s : Shared) (Q : Value → Shared → Prop) (E : Value → Shared → Prop), C i j → Q (.int (g i j) s.toks) { s with toks := s.toks + 1 } → wpAny (model X.prog X.w) X.A (f (.int i t) (.int j u)) Q E s) :
    OpR X f (rI C fun i j => .int (g i j)) := by
  intro pins s σ H x y v u Q I rx ry h
  obtain ⟨i, j, rfl, rfl, hc, q⟩ := h
  obtain ⟨t, rfl⟩ := rx
  obtain ⟨t', rfl⟩ := ry
  exact rule i j t t' s _ _ hc ⟨.int (g i j), H, I.tok _, ⟨_, rfl⟩, q⟩
theorem opI0 {f : Value → Value → Sem Value} {g : Int → Int → Int}
    (rule : ∀ (i j : Int) (t u : Tok) (s : Shared) (Q : Value → Shared → Prop) (E : Value → Shared → Prop), Q (.int (g i j) s.toks) { s with toks := s.toks + 1 } → wpAny (model X.prog X.w) X.A (f (.int i t) (.int j u)) Q E s) :
    OpR X f (rI0 fun i j => .int (g i j)) := by
  intro pins s σ H x y v u Q I rx ry h
  obtain ⟨i, j, rfl, rfl, q⟩ := h
  obtain ⟨t, rfl⟩ := rx
  obtain ⟨t', rfl⟩ := ry
  exact rule i j t t' s _ _ ⟨.int (g i j), H, I.tok _, ⟨_, rfl⟩, q⟩
theorem opB0 {f : Value → Value → Sem Value} {g : Int → Int → Bool}
    (rule : ∀ (i j : Int) (t u : Tok) (s : Shared) (Q : Value → Shared → Prop) (E : Value → Shared → Prop), Q (.bool (g i j)) s → wpAny (model X.prog X.w) X.A (f (.int i t) (.int j u)) Q E s) :
    OpR X f (rI0 fun i j => .bl (g i j)) := by
  intro pins s σ H x y v u Q I rx ry h
  obtain ⟨i, j, rfl, rfl, q⟩ := h
  obtain ⟨t, rfl⟩ := rx
  obtain ⟨t', rfl⟩ := ry
  exact rule i j t t' s _ _ ⟨.bl (g i j), H, I, rfl, q⟩
def CDiv (i j : Int) : Prop := 0 < j ∧ j < 1073741824
def CDivN (i j : Int) : Prop := j ≠ 0 ∧ j.natAbs < 1073741824
def CPow (i j : Int) : Prop := 0 ≤ j ∧ j ≤ 1000000 ∧ i.natAbs < 2 ^ 64
def CMul (i j : Int) : Prop := (-(2 ^ 64) < i ∧ i < 2 ^ 64) ∨ (-(2 ^ 64) < j ∧ j < 2 ^ 64)
theorem CMul.ok {i j : Int} (h : CMul i j) : IntMulOk i j := by
  rcases h with ⟨h1, h2⟩ | ⟨h1, h2⟩
  · exact .of_left (intBits_le_64 h1 h2)
  · exact .of_right (intBits_le_64 h1 h2)
theorem two_pow_nn (k : Nat) : (0 : Int) ≤ 2 ^ k := by
  rw [two_pow_cast]
  exact Int.natCast_nonneg _
theorem op_add : OpR X (binaryOp .Add) (rI0 fun i j => .int (i + j)) := opI0 fun _ _ _ _ _ _ _ q => add_int q
theorem op_sub : OpR X (binaryOp .Sub) (rI0 fun i j => .int (i - j)) := opI0 fun _ _ _ _ _ _ _ q => sub_int q
theorem op_mul : OpR X (binaryOp .Mult) (rI CMul fun i j => .int (i * j)) := opI fun _ _ _ _ _ _ _ hc q => mul_int q hc.ok
theorem op_fdiv : OpR X (binaryOp .FloorDiv) (rI CDiv fun i j => .int (i / j)) := opI fun i j _ _ _ _ _ hc q => by
  have h1 : (0 : Int) < j := hc.1
  have h2 : j < 1073741824 := hc.2
  exact floordiv_int (by omega) (by rw [Int.fdiv_eq_ediv_of_nonneg i (by omega)]; exact q) (.inl (PyProof.noPylong_small (by omega)))
theorem op_fdivN : OpR X (binaryOp .FloorDiv) (rI CDivN fun i j => .int (i.fdiv j)) := opI fun _ _ _ _ _ _ _ hc q => floordiv_int hc.1 q (.inl (PyProof.noPylong_small hc.2))
theorem op_mod : OpR X (binaryOp .Mod) (rI (fun _ j => 0 < j) fun i j => .int (i % j)) := opI fun i j _ _ _ _ _ hc q => by
  have h1 : (0 : Int) < j := hc
  exact mod_int' (by omega) (by rw [Int.fmod_eq_emod_of_nonneg i (by omega)]; exact q)
theorem op_modN : OpR X (binaryOp .Mod) (rI (fun _ j => j ≠ 0) fun i j => .int (i.fmod j)) := opI fun _ _ _ _ _ _ _ hc q => mod_int' hc q
theorem op_pow : OpR X (binaryOp .Pow) (rI CPow fun i j => .int (i ^ j.toNat)) := opI fun _ _ _ _ _ _ _ hc q => pow_int_small hc.1 hc.2.1 hc.2.2 q
theorem op_shl : OpR X (binaryOp .LShift) (rI CPow fun i j => .int (i * 2 ^ j.toNat)) := opI fun _ _ _ _ _ _ _ hc q => lshift_int_small hc.1 hc.2.1 hc.2.2 q
theorem op_shr : OpR X (binaryOp .RShift) (rI (fun _ j => 0 ≤ j) fun i j => .int (i / 2 ^ j.toNat)) := opI fun i j _ _ _ _ _ hc q =>
  rshift_int hc (by rw [Int.fdiv_eq_ediv_of_nonneg i (two_pow_nn _)]; exact q)
theorem op_and : OpR X (binaryOp .BitAnd) (rI0 fun i j => .int (Builtin.bitAnd i j)) := opI0 fun _ _ _ _ _ _ _ q => and_int q
theorem op_or : OpR X (binaryOp .BitOr) (rI0 fun i j => .int (Builtin.bitOr i j)) := opI0 fun _ _ _ _ _ _ _ q => or_int q
theorem op_xor : OpR X (binaryOp .BitXor) (rI0 fun i j => .int (Builtin.bitXor i j)) := opI0 fun _ _ _ _ _ _ _ q => xor_int q
theorem iop_add : OpR X (inplaceOp .Add) (rI0 fun i j => .int (i + j)) := opI0 fun _ _ _ _ _ _ _ q => iadd_int q
theorem iop_sub : OpR X (inplaceOp .Sub) (rI0 fun i j => .int (i - j)) := opI0 fun _ _ _ _ _ _ _ q => isub_int q
theorem iop_mul : OpR X (inplaceOp .Mult) (rI CMul fun i j => .int (i * j)) := opI fun _ _ _ _ _ _ _ hc q => imul_int q hc.ok
theorem iop_fdiv : OpR X (inplaceOp .FloorDiv) (rI CDiv fun i j => .int (i / j)) := opI fun i j _ _ _ _ _ hc q => by
  have h1 : (0 : Int) < j := hc.1
  have h2 : j < 1073741824 := hc.2
  exact ifloordiv_int (by omega) (by rw [Int.fdiv_eq_ediv_of_nonneg i (by omega)]; exact q) (.inl (PyProof.noPylong_small (by omega)))
theorem iop_mod : OpR X (inplaceOp .Mod) (rI (fun _ j => 0 < j) fun i j => .int (i % j)) := opI fun i j _ _ _ _ _ hc q => by
  have h1 : (0 : Int) < j := hc
  exact imod_int (by omega) (by rw [Int.fmod_eq_emod_of_nonneg i (by omega)]; exact q)
theorem iop_shl : OpR X (inplaceOp .LShift) (rI CPow fun i j => .int (i * 2 ^ j.toNat)) := opI fun _ _ _ _ _ _ _ hc q => ilshift_int_small hc.1 hc.2.1 hc.2.2 q
theorem iop_shr : OpR X (inplaceOp .RShift) (rI (fun _ j => 0 ≤ j) fun i j => .int (i / 2 ^ j.toNat)) := opI fun i j _ _ _ _ _ hc q =>
  irshift_int hc (by rw [Int.fdiv_eq_ediv_of_nonneg i (two_pow_nn _)]; exact q)
theorem iop_and : OpR X (inplaceOp .BitAnd) (rI0 fun i j => .int (Builtin.bitAnd i j)) := opI0 fun _ _ _ _ _ _ _ q => iand_int q
theorem iop_or : OpR X (inplaceOp .BitOr) (rI0 fun i j => .int (Builtin.bitOr i j)) := opI0 fun _ _ _ _ _ _ _ q => ior_int q
theorem iop_xor : OpR X (inplaceOp .BitXor) (rI0 fun i j => .int (Builtin.bitXor i j)) := opI0 fun _ _ _ _ _ _ _ q => ixor_int q
theorem unI {f : Value → Sem Value} {g : Int → Int}
    (rule : ∀ (i : Int) (t : Tok) (s : Shared) (Q : Value → Shared → Prop) (E : Value → Shared → Prop), Q (.int (g i) s.toks) { s with toks := s.toks + 1 } → wpAny (model X.prog X.w) X.A (f (.int i t)) Q E s) :
    UnR X f (rU fun i => .int (g i)) := by
  intro pins s σ H x v Q I rx h
  obtain ⟨i, rfl, q⟩ := h
  obtain ⟨t, rfl⟩ := rx
  exact rule i t s _ _ ⟨.int (g i), H, I.tok _, ⟨_, rfl⟩, q⟩
theorem un_neg : UnR X (unaryOp .USub) (rU fun i => .int (-i)) := unI fun _ _ _ _ _ q => neg_int q
theorem un_inv : UnR X (unaryOp .Invert) (rU fun i => .int (Builtin.bitNot i)) := unI fun _ _ _ _ _ q => invert_int q
theorem op_add_ib : OpR X (binaryOp .Add) (fun x y H Q => ∃ i k, x = .int i ∧ y = .bl k ∧ Q (.int (i + b2i k)) H) := by
  intro pins s σ H x y v u Q I rx ry h
  obtain ⟨i, k, rfl, rfl, q⟩ := h
  obtain ⟨t, rfl⟩ := rx
  cases ry
  exact add_int_bool ⟨.int (i + b2i k), H, I.tok _, ⟨_, rfl⟩, q⟩
end
def scal : V → V → Bool
  | .non, .non => true | .non, .int _ => true | .int _, .non => true | .non, .bl _ => true | .bl _, .non => true | .non, .str _ => true | .str _, .non => true
  | .int _, .int _ => true | .bl _, .bl _ => true | .str _, .str _ => true | .byt _, .byt _ => true
  | .int _, .str _ => true | .str _, .int _ => true | .bl _, .str _ => true | .str _, .bl _ => true
  | _, _ => false
def rEq : R2 := fun x y H Q => scal x y = true ∧ Q (.bl (decide (x = y))) H
def rNe : R2 := fun x y H Q => scal x y = true ∧ Q (.bl (!decide (x = y))) H
theorem dec_int {i j : Int} : decide (V.int i = V.int j) = (i == j) := by
  rw [Bool.eq_iff_iff]
  simp
theorem dec_bl {i j : Bool} : decide (V.bl i = V.bl j) = (i == j) := by
  rw [Bool.eq_iff_iff]
  simp
theorem dec_str {i j : Str} : decide (V.str i = V.str j) = (i == j) := by
  rw [Bool.eq_iff_iff]
  simp
theorem dec_byt {i j : Array UInt8} : decide (V.byt i = V.byt j) = (i.toList == j.toList) := by
  rw [Bool.eq_iff_iff]
  cases i
  cases j
  simp
section
variable {X : Cx} {a b c : Expr} {ta tb tc : TE} {pos : Pos}
theorem fin_bl {pins : List (Addr × Obj)} {σ : St} {H : Hp} {s : Shared} {Q : VK} {k k' : Bool} (I : Inv X pins σ H s) (q : Q (.bl k) H) (e : k = k') : EP X pins σ Q (.bool k') s := by
  subst e
  exact ⟨.bl k, H, I, rfl, q⟩
theorem op_eq : OpR X (compareOp .Eq) rEq := by
  intro pins s σ H x y v u Q I rx ry h
  obtain ⟨hs, q⟩ := h
  cases x with
  | non =>
    cases rx
    cases y with
    | non => cases ry; exact PySem.EqNone.eq_none_none (fin_bl I q (by simp))
    | bl j => cases ry; exact PySem.EqNone.eq_none_bool (fin_bl I q (by simp))
    | int j => obtain ⟨t', rfl⟩ := ry; exact PySem.EqNone.eq_none_int (fin_bl I q (by simp))
    | str j => obtain ⟨t', rfl⟩ := ry; exact PySem.EqNone.eq_none_str (fin_bl I q (by simp))
    | _ => exact absurd (show false = true from hs) Bool.false_ne_true
  | bl i =>
    cases rx
    cases y with
    | non => cases ry; exact PySem.EqNone.eq_bool_none (fin_bl I q (by simp))
    | bl j => cases ry; exact eq_bool (fin_bl I q dec_bl)
    | str j => obtain ⟨t', rfl⟩ := ry; exact PySem.EqMixed.eq_bool_str (fin_bl I q (by simp))
    | _ => exact absurd (show false = true from hs) Bool.false_ne_true
  | int i =>
    obtain ⟨t, rfl⟩ := rx
    cases y with
    | non => cases ry; exact PySem.EqNone.eq_int_none (fin_bl I q (by simp))
    | int j => obtain ⟨t', rfl⟩ := ry; exact eq_int (fin_bl I q dec_int)
    | str j => obtain ⟨t', rfl⟩ := ry; exact PySem.EqMixed.eq_int_str (fin_bl I q (by simp))
    | _ => exact absurd (show false = true from hs) Bool.false_ne_true
  | str i =>
    obtain ⟨t, rfl⟩ := rx
    cases y with
    | non => cases ry; exact PySem.EqNone.eq_str_none (fin_bl I q (by simp))
    | bl j => cases ry; exact PySem.EqMixed.eq_str_bool (fin_bl I q (by simp))
    | int j => obtain ⟨t', rfl⟩ := ry; exact PySem.EqMixed.eq_str_int (fin_bl I q (by simp))
    | str j => obtain ⟨t', rfl⟩ := ry; exact eq_str (fin_bl I q dec_str)
    | _ => exact absurd (show false = true from hs) Bool.false_ne_true
  | byt i =>
    obtain ⟨t, rfl⟩ := rx
    cases y with
    | byt j => obtain ⟨t', rfl⟩ := ry; exact PySem.W.eq_bytes (fin_bl I q dec_byt)
    | _ => exact absurd (show false = true from hs) Bool.false_ne_true
  | _ => cases y <;> exact absurd (show false = true from hs) Bool.false_ne_true
theorem op_ne : OpR X (compareOp .NotEq) rNe := by
  intro pins s σ H x y v u Q I rx ry h
  obtain ⟨hs, q⟩ := h
  cases x with
  | non =>
    cases rx
    cases y with
    | non => cases ry; exact PySem.EqNone.ne_none_none (fin_bl I q (by simp))
    | bl j => cases ry; exact PySem.EqNone.ne_none_bool (fin_bl I q (by simp))
    | int j => obtain ⟨t', rfl⟩ := ry; exact PySem.EqNone.ne_none_int (fin_bl I q (by simp))
    | str j => obtain ⟨t', rfl⟩ := ry; exact PySem.EqNone.ne_none_str (fin_bl I q (by simp))
    | _ => exact absurd (show false = true from hs) Bool.false_ne_true
  | bl i =>
    cases rx
    cases y with
    | non => cases ry; exact PySem.EqNone.ne_bool_none (fin_bl I q (by simp))
    | bl j => cases ry; exact ne_bool (fin_bl I q (congrArg not dec_bl))
    | str j => obtain ⟨t', rfl⟩ := ry; exact PySem.EqMixed.ne_bool_str (fin_bl I q (by simp))
    | _ => exact absurd (show false = true from hs) Bool.false_ne_true
  | int i =>
    obtain ⟨t, rfl⟩ := rx
    cases y with
    | non => cases ry; exact PySem.EqNone.ne_int_none (fin_bl I q (by simp))
    | int j => obtain ⟨t', rfl⟩ := ry; exact ne_int (fin_bl I q (congrArg not dec_int))
    | str j => obtain ⟨t', rfl⟩ := ry; exact PySem.EqMixed.ne_int_str (fin_bl I q (by simp))
    | _ => exact absurd (show false = true from hs) Bool.false_ne_true
  | str i =>
    obtain ⟨t, rfl⟩ := rx
    cases y with
    | non => cases ry; exact PySem.EqNone.ne_str_none (fin_bl I q (by simp))
    | bl j => cases ry; exact PySem.EqMixed.ne_str_bool (fin_bl I q (by simp))
    | int j => obtain ⟨t', rfl⟩ := ry; exact PySem.EqMixed.ne_str_int (fin_bl I q (by simp))
    | str j => obtain ⟨t', rfl⟩ := ry; exact ne_str (fin_bl I q (congrArg not dec_str))
    | _ => exact absurd (show false = true from hs) Bool.false_ne_true
  | byt i =>
    obtain ⟨t, rfl⟩ := rx
    cases y with
    | byt j => obtain ⟨t', rfl⟩ := ry; exact PySem.W.ne_bytes (fin_bl I q (congrArg not dec_byt))
    | _ => exact absurd (show false = true from hs) Bool.false_ne_true
  | _ => cases y <;> exact absurd (show false = true from hs) Bool.false_ne_true
theorem op_lt : OpR X (compareOp .Lt) (rI0 fun i j => .bl (decide (i < j))) := opB0 fun _ _ _ _ _ _ _ q => lt_int q
theorem op_le : OpR X (compareOp .LtE) (rI0 fun i j => .bl (decide (i ≤ j))) := opB0 fun _ _ _ _ _ _ _ q => le_int q
theorem op_gt : OpR X (compareOp .Gt) (rI0 fun i j => .bl (decide (j < i))) := opB0 fun _ _ _ _ _ _ _ q => gt_int q
theorem op_ge : OpR X (compareOp .GtE) (rI0 fun i j => .bl (decide (j ≤ i))) := opB0 fun _ _ _ _ _ _ _ q => ge_int q
theorem op_lt_str : OpR X (compareOp .Lt) (fun x y H Q => ∃ i j, x = .str i ∧ y = .str j ∧ Q (.bl (decide (i.cps.toList < j.cps.toList))) H) := by
  intro pins s σ H x y v u Q I rx ry h
  obtain ⟨i, j, rfl, rfl, q⟩ := h
  obtain ⟨t, rfl⟩ := rx
  obtain ⟨t', rfl⟩ := ry
  exact lt_str (fin_bl I q rfl)
theorem op_in_str : OpR X (compareOp .In) (fun x y H Q => ∃ i j, x = .str i ∧ y = .str j ∧ Q (.bl (!(Builtin.Str.occurrences j i 0 j.length 1).isEmpty)) H) := by
  intro pins s σ H x y v u Q I rx ry h
  obtain ⟨i, j, rfl, rfl, q⟩ := h
  obtain ⟨t, rfl⟩ := rx
  obtain ⟨t', rfl⟩ := ry
  exact in_str (fin_bl I q rfl)
theorem op_isN : OpR X (compareOp .Is) (fun x y H Q => y = .non ∧ Q (.bl (decide (x = .non))) H) := by
  intro pins s σ H x y v u Q I rx ry h
  obtain ⟨rfl, q⟩ := h
  cases ry
  refine is_none_gen (fin_bl I q ?_)
  cases x <;> first
    | (cases rx; rfl)
    | (obtain ⟨t, rfl⟩ := rx; rfl)
theorem op_notN : OpR X (compareOp .IsNot) (fun x y H Q => y = .non ∧ Q (.bl (!decide (x = .non))) H) := by
  intro pins s σ H x y v u Q I rx ry h
  obtain ⟨rfl, q⟩ := h
  cases ry
  refine isnot_none_gen (fin_bl I q ?_)
  cases x <;> first
    | (cases rx; rfl)
    | (obtain ⟨t, rfl⟩ := rx; rfl)
theorem op_notin_str : OpR X (compareOp .NotIn) (fun x y H Q => ∃ i j, x = .str i ∧ y = .str j ∧ Q (.bl (!(!(Builtin.Str.occurrences j i 0 j.length 1).isEmpty))) H) := by
  intro pins s σ H x y v u Q I rx ry h
  obtain ⟨i, j, rfl, rfl, q⟩ := h
  obtain ⟨t, rfl⟩ := rx
  obtain ⟨t', rfl⟩ := ry
  exact notIn_str (fin_bl I q rfl)
def isObj : HO → Bool
  | .lst _ => true
  | .ins _ _ _ => true
  | _ => false
theorem obj_there {pins : List (Addr × Obj)} {s : Shared} {σ : St} {H : Hp} {a : Addr} {o : HO} (I : Inv X pins σ H s) (h : H a = some o) (p : isObj o = true) : ∃ ob, s.heap.get? a = some ob ∧ ob.cls ≠ .type "tuple" := by
  cases o with
  | lst xs =>
    obtain ⟨_, its, n, _, e⟩ : xs.length ≤ sizeLine ∧ ∃ (its : List Value) (n : Nat), Vals xs its ∧ s.heap.get? a = some { cls := .type "list", data := .seq its.toArray n } := I.hok a _ h
    exact ⟨_, e, (by show Value.type "list" ≠ .type "tuple"; decide +kernel)⟩
  | ins C dx fs =>
    have x := I.hok a _ h
    obtain ⟨_, _, _, e, _⟩ := x
    exact ⟨_, e, (by show Value.ref C ≠ .type "tuple"; exact fun z => by cases z)⟩
  | _ => exact absurd (show false = true from p) Bool.false_ne_true
theorem op_is_ref : OpR X (compareOp .Is) (fun x y H Q => ∃ a b oa ob, x = .ref a ∧ y = .ref b ∧ H a = some oa ∧ isObj oa = true ∧ H b = some ob ∧ isObj ob = true ∧ Q (.bl (decide (a = b))) H) := by
  intro pins s σ H x y v u Q I rx ry h
  obtain ⟨a, b, oa, ob, rfl, rfl, ha, pa, hb, pb, q⟩ := h
  cases rx
  cases ry
  obtain ⟨o1, e1, n1⟩ := obj_there I ha pa
  obtain ⟨o2, e2, _⟩ := obj_there I hb pb
  by_cases z : a = b
  · subst z
    exact wpAny_is_ref_self (fin_bl I q (by simp))
  · exact wpAny_is_ref_other z e1 e2 n1 (fin_bl I q (by simp [z]))
theorem op_isnot_ref : OpR X (compareOp .IsNot) (fun x y H Q => ∃ a b oa ob, x = .ref a ∧ y = .ref b ∧ H a = some oa ∧ isObj oa = true ∧ H b = some ob ∧ isObj ob = true ∧ Q (.bl (!decide (a = b))) H) := by
  intro pins s σ H x y v u Q I rx ry h
  obtain ⟨a, b, oa, ob, rfl, rfl, ha, pa, hb, pb, q⟩ := h
  cases rx
  cases ry
  obtain ⟨o1, e1, n1⟩ := obj_there I ha pa
  obtain ⟨o2, e2, _⟩ := obj_there I hb pb
  by_cases z : a = b
  · subst z
    exact wpAny_isNot_ref_self (fin_bl I q (by simp))
  · exact wpAny_isNot_ref_other z e1 e2 n1 (fin_bl I q (by simp [z]))
theorem OpR.or {f : Value → Value → Sem Value} {r r' : R2} (h : OpR X f r) (h' : OpR X f r') : OpR X f (fun x y H Q => r x y H Q ∨ r' x y H Q) := by
  intro pins s σ H x y v u Q I rx ry q
  rcases q with q | q
  · exact h pins s σ H x y v u Q I rx ry q
  · exact h' pins s σ H x y v u Q I rx ry q
theorem nomark (b : Expr) {op : CmpOp} (h : op ≠ .In := by decide) (h2 : op ≠ .NotIn := by decide) : behindInMarks op b = false := by
  have e1 : (op == CmpOp.In) = false := by cases op <;> first | rfl | exact absurd rfl h
  have e2 : (op == CmpOp.NotIn) = false := by cases op <;> first | rfl | exact absurd rfl h2
  cases b <;> simp [behindInMarks, e1, e2]
theorem pe_cmpR {op : CmpOp} {r : R2} (ho : OpR X (compareOp op) r) (ha : PE X a ta) (hb : PE X b tb) (hm : behindInMarks op b = false) : PE X (.Compare a [op] [b] pos) (tOp r ta tb) := by
  intro pins s σ H Q I h
  exact wpAny_Compare1 (binT ha hb I h fun v u s2 x y H2 I2 rx ry q => ho pins s2 σ H2 x y v u Q I2 rx ry q) hm
def tTest (t : TE) : TT := fun σ H Q => t σ H fun x H' => ∃ k, x = .bl k ∧ Q k H'
theorem pt_cmpR {op : CmpOp} {r : R2} (ho : OpR X (compareOp op) r) (ha : PE X a ta) (hb : PE X b tb) (hm : behindInMarks op b = false) : PT X (.Compare a [op] [b] pos) (tTest (tOp r ta tb)) := by
  intro pins s σ H Q I h
  refine wpAny_isTrue_Compare1 (thn (ha pins s σ H _ I h) fun v s1 ⟨x, H1, I1, r1, q1⟩ => thn (hb pins s1 σ H1 _ I1 q1) fun u s2 ⟨y, H2, I2, r2, q2⟩ =>
    thn (ho pins s2 σ H2 x y v u _ I2 r1 r2 q2) fun c s3 ⟨z, H3, I3, r3, k, e, q3⟩ => ?_) hm
  subst e
  cases r3
  exact wpAny_truthy_bool ⟨H3, I3, q3⟩
def tChain (r r' : R2) (ta tb tc : TE) : TE := fun σ H Q => ta σ H fun x H1 => tb σ H1 fun y H2 => r x y H2 fun z H3 => ∃ k, z = .bl k ∧
  (if k = true then tc σ H3 fun w' H4 => r' y w' H4 Q else Q (.bl false) H3)
theorem pe_chain {op op' : CmpOp} {r r' : R2} (ho : OpR X (compareOp op) r) (ho' : OpR X (compareOp op') r') (ha : PE X a ta) (hb : PE X b tb) (hc : PE X c tc)
    (hm : lastMarks [op, op'] [b, c] = false := by with_unfolding_all rfl) : PE X (.Compare a [op, op'] [b, c] pos) (tChain r r' ta tb tc) := by
  intro pins s σ H Q I h
  refine Compare_chain (thn (ha pins s σ H _ I h) fun v s1 ⟨x, H1, I1, r1, q1⟩ => chain_link (thn (hb pins s1 σ H1 _ I1 q1) fun u s2 ⟨y, H2, I2, r2, q2⟩ =>
    thn (ho pins s2 σ H2 x y v u _ I2 r1 r2 q2) fun d s3 ⟨z, H3, I3, r3, k, e, q3⟩ => ?_)) hm
  subst e
  cases r3
  refine wpAny_truthy_bool ?_
  cases k with
  | false => exact ite_ff ⟨.bl false, H3, I3, rfl, q3⟩
  | true => exact ite_tt (chain_last (thn (hc pins s3 σ H3 _ I3 q3) fun w' s4 ⟨z', H4, I4, r4, q4⟩ => ho' pins s4 σ H4 y z' u w' Q I4 r2 r4 q4))
theorem pt_chain {op op' : CmpOp} {r r' : R2} (ho : OpR X (compareOp op) r) (ho' : OpR X (compareOp op') r') (ha : PE X a ta) (hb : PE X b tb) (hc : PE X c tc)
    (hm : lastMarks [op, op'] [b, c] = false := by with_unfolding_all rfl) : PT X (.Compare a [op, op'] [b, c] pos) (tTest (tChain r r' ta tb tc)) := by
  intro pins s σ H Q I h
  refine isTrue_chain (thn (ha pins s σ H _ I h) fun v s1 ⟨x, H1, I1, r1, q1⟩ => test_link (thn (hb pins s1 σ H1 _ I1 q1) fun u s2 ⟨y, H2, I2, r2, q2⟩ =>
    thn (ho pins s2 σ H2 x y v u _ I2 r1 r2 q2) fun d s3 ⟨z, H3, I3, r3, k, e, q3⟩ => ?_)) hm
  subst e
  cases r3
  refine wpAny_truthy_bool ?_
  cases k with
  | false =>
    obtain ⟨k', e', q'⟩ := q3
    cases e'
    exact ite_ff ⟨H3, I3, q'⟩
  | true =>
    refine ite_tt (test_last (thn (hc pins s3 σ H3 _ I3 q3) fun w' s4 ⟨z', H4, I4, r4, q4⟩ => thn (ho' pins s4 σ H4 y z' u w' _ I4 r2 r4 q4) fun d' s5 ⟨z2, H5, I5, r5, k2, e2, q5⟩ => ?_))
    subst e2
    cases r5
    exact wpAny_truthy_bool ⟨H5, I5, q5⟩
def TruV (K : PySem.W.Frag) (x : V) (H : Hp) (k : Bool) : Prop :=
  match x with
  | .non => k = false
  | .bl b => k = b
  | .int i => k = (i != 0)
  | .str y => y.length ≤ sizeLine ∧ k = ((y.length : Int) != 0)
  | .byt y => y.size ≤ sizeLine ∧ k = ((y.size : Int) != 0)
  | .ref p => (∃ xs, SqL K H p xs ∧ k = !xs.isEmpty) ∨ (∃ xs, SqT K H p xs ∧ k = !xs.isEmpty) ∨ ∃ kvs, H p = some (.dK kvs) ∧ k = !kvs.isEmpty
  | _ => False
theorem isEmpty_kv {κ : Type} {kvs : List (κ × V)} {vs : List (κ × Value)} (r : KV kvs vs) : (!vs.isEmpty) = !kvs.isEmpty := by
  cases r <;> rfl
theorem isEmpty_of {xs : List V} {its : List Value} (r : Vals xs its) : (!its.toArray.isEmpty) = !xs.isEmpty := by
  cases r <;> simp
theorem line63 : (sizeLine : Nat) < 2 ^ 63 := by rw [sizeLine_eq]; decide
theorem tru_ok : TruR X (fun x H Q => ∃ k, TruV X.K x H k ∧ Q k H) := by
  intro pins s σ H x v Q I rx h
  obtain ⟨k, e, q⟩ := h
  have hl := line63
  have hs : sizeLine = 16777216 := sizeLine_eq
  cases x with
  | non =>
    cases rx
    have e' : k = false := e
    subst e'
    exact truthy_none ⟨H, I, q⟩
  | bl b =>
    cases rx
    have e' : k = b := e
    subst e'
    exact wpAny_truthy_bool ⟨H, I, q⟩
  | int i =>
    obtain ⟨t, rfl⟩ := rx
    have e' : k = (i != 0) := e
    subst e'
    exact PySem.P.truthy_int ⟨H, I, q⟩
  | str y =>
    obtain ⟨t, rfl⟩ := rx
    obtain ⟨hy, e'⟩ : y.length ≤ sizeLine ∧ k = ((y.length : Int) != 0) := e
    subst e'
    exact PySem.P.truthy_str (by omega) ⟨H, I.tok _, q⟩
  | byt y =>
    obtain ⟨t, rfl⟩ := rx
    obtain ⟨hy, e'⟩ : y.size ≤ sizeLine ∧ k = ((y.size : Int) != 0) := e
    subst e'
    exact PySem.W.truthy_bytes (by omega) ⟨H, I.tok _, q⟩
  | ref p =>
    cases rx
    have e' : (∃ xs, SqL X.K H p xs ∧ k = !xs.isEmpty) ∨ (∃ xs, SqT X.K H p xs ∧ k = !xs.isEmpty) ∨ ∃ kvs, H p = some (.dK kvs) ∧ k = !kvs.isEmpty := e
    rcases e' with ⟨xs, hx, e'⟩ | ⟨xs, hx, e'⟩ | ⟨kvs, hx, e'⟩
    · subst e'
      obtain ⟨its, r, pl, hz⟩ := I.list hx
      have hlen := r.length
      exact wpAny_truthy_list pl.isList (by simp only [List.size_toArray]; omega) ⟨H, I.tok _, by rw [isEmpty_of r]; exact q⟩
    · subst e'
      obtain ⟨its, r, pl, hz⟩ := I.tuple hx
      have hlen := r.length
      exact truthy_tuple pl (by simp only [List.size_toArray]; omega) ⟨H, I.tok _, by rw [isEmpty_of r]; exact q⟩
    · subst e'
      obtain ⟨hz, hS, vs, r, m⟩ : kvs.length ≤ sizeLine ∧ (p == sysModules) = false ∧ ∃ vs, KV kvs vs ∧ s.heap.DictOf (mixKind X.prog X.w) p vs := I.hok p _ hx
      have hlen : kvs.length = vs.length := Paired.length r
      exact wpAny_truthy_dict hS m (by omega) ⟨H, I.tok _, by rw [isEmpty_kv r]; exact q⟩
  | _ => exact (show False from e).elim
theorem pt_truth (ha : PE X a ta) (he : ∀ whole, isTrue a X.env whole = (do let v ← whole; standAt a.pos; holding [v] (truthy v))) :
    PT X a (fun σ H Q => ta σ H fun x H' => ∃ k, TruV X.K x H' k ∧ Q k H') := by
  intro pins s σ H Q I h
  exact isTrue_plain (thn (ha pins s σ H _ I h) fun v s1 ⟨x, H1, I1, r1, q1⟩ => tru_ok pins s1 σ H1 x v Q I1 r1 q1) (he _)
theorem pe_byt {x : List UInt8} {k : Nat} : PE X (.Constant (.bytes x) k pos) (fun _ H Q => Q (.byt x.toArray) H) := fun _ _ _ H _ I h => PySem.W.Constant_bytes ⟨.byt x.toArray, H, I.tok _, ⟨_, rfl⟩, h⟩
theorem op_add_str : OpR X (binaryOp .Add) (fun x y H Q => ∃ i j, x = .str i ∧ y = .str j ∧ i.length + j.length ≤ sizeLine ∧ Q (.str (i ++ j)) H) := by
  intro pins s σ H x y v u Q I rx ry h
  obtain ⟨i, j, rfl, rfl, hz, q⟩ := h
  obtain ⟨t, rfl⟩ := rx
  obtain ⟨t', rfl⟩ := ry
  exact add_str (fun t' tk => ⟨.str (i ++ j), H, I.tok _, ⟨_, rfl⟩, q⟩) hz
theorem iop_add_str : OpR X (inplaceOp .Add) (fun x y H Q => ∃ i j, x = .str i ∧ y = .str j ∧ i.length + j.length ≤ sizeLine ∧ Q (.str (i ++ j)) H) := by
  intro pins s σ H x y v u Q I rx ry h
  obtain ⟨i, j, rfl, rfl, hz, q⟩ := h
  obtain ⟨t, rfl⟩ := rx
  obtain ⟨t', rfl⟩ := ry
  exact iadd_str (fun t' tk => ⟨.str (i ++ j), H, I.tok _, ⟨_, rfl⟩, q⟩) hz
theorem op_add_byt : OpR X (binaryOp .Add) (fun x y H Q => ∃ i j, x = .byt i ∧ y = .byt j ∧ i.size + j.size ≤ 16777216 ∧ Q (.byt (i ++ j)) H) := by
  intro pins s σ H x y v u Q I rx ry h
  obtain ⟨i, j, rfl, rfl, hz, q⟩ := h
  obtain ⟨t, rfl⟩ := rx
  obtain ⟨t', rfl⟩ := ry
  exact PySem.W.KBy.add_bytes hz (fun t' tk => ⟨.byt (i ++ j), H, I.tok _, ⟨_, rfl⟩, q⟩)
def PlainIxT (b : Expr) : Prop := ∀ o i, subscripted b false o i = operate [o, i] (getItem o i)
theorem pe_item_str (ha : PE X a ta) (hb : PE X b tb) (hs : PlainIxT b) :
    PE X (.Subscript a b pos) (tOp (fun x y H Q => ∃ z i c, x = .str z ∧ y = .int i ∧ 0 ≤ i ∧ i < 2 ^ 63 ∧ i < z.length ∧ z.cps[i.toNat]? = some c ∧ Q (.str ⟨#[c]⟩) H) ta tb) := by
  intro pins s σ H Q I h
  refine Subscript_ (binT ha hb I h fun v u s2 x y H2 I2 rx ry q => ?_)
  obtain ⟨z, i, c, rfl, rfl, h0, h63, h1, hc, q⟩ := q
  obtain ⟨t, rfl⟩ := rx
  obtain ⟨t', rfl⟩ := ry
  have e : seqIndex? i z.length = some i.toNat := PySem.StrLaws.seqIndex_nonneg h0 h1
  exact tail_any (typeIs_str s2 z t) slot_str_getitem.lookup (getItem_str (c := c) (by
    have e1 : decide (i < -(2 ^ 63 : Int)) = false := decide_eq_false (by omega)
    have e2 : decide (i ≥ 2 ^ 63) = false := decide_eq_false (by omega)
    rw [e1, e2] <;> rfl) (by rw [e]; exact hc) ⟨.str ⟨#[c]⟩, H2, I2.tok _, ⟨_, rfl⟩, q⟩) (hs _ _)
theorem pe_item_byt (ha : PE X a ta) (hb : PE X b tb) (hs : PlainIxT b) :
    PE X (.Subscript a b pos) (tOp (fun x y H Q => ∃ (z : List UInt8) (i : Int), x = .byt z.toArray ∧ y = .int i ∧ z.length ≤ sizeLine ∧ 0 ≤ i ∧ i < z.length ∧ Q (.int ((z.getD i.toNat 0).toNat : Nat)) H) ta tb) := by
  intro pins s σ H Q I h
  refine Subscript_ (binT ha hb I h fun v u s2 x y H2 I2 rx ry q => ?_)
  obtain ⟨z, i, rfl, rfl, hz, h0, h1, q⟩ := q
  obtain ⟨t, rfl⟩ := rx
  obtain ⟨t', rfl⟩ := ry
  have hl : sizeLine = 16777216 := sizeLine_eq
  exact tail_any (PySem.W.typeIs_bytes s2 z.toArray t) PySem.W.FB.slot_bytes_getitem.lookup (PySem.W.getItem_bytes (by omega) h0 h1 ⟨.int ((z.getD i.toNat 0).toNat : Nat), H2, I2.tok _, ⟨_, rfl⟩, q⟩) (hs _ _)
theorem vals1 {x : V} {us : List Value} (r : Vals [x] us) : ∃ u, us = [u] ∧ RelV x u := by
  cases r with
  | cons r1 r2 => cases r2; exact ⟨_, rfl, r1⟩
theorem vals2 {x y : V} {us : List Value} (r : Vals [x, y] us) : ∃ u w', us = [u, w'] ∧ RelV x u ∧ RelV y w' := by
  cases r with
  | cons r1 r2 =>
    cases r2 with
    | cons r3 r4 => cases r4; exact ⟨_, _, rfl, r1, r3⟩
theorem call_abs : CallR X (.builtin "abs") (fun xs H Q => ∃ i, xs = [.int i] ∧ Q (.int (if i < 0 then -i else i)) H) := by
  intro pins s σ H xs us Q I r h
  obtain ⟨i, rfl, q⟩ := h
  obtain ⟨u, rfl, t, rfl⟩ := vals1 r
  exact call_abs_int fun u tk => ⟨.int (if i < 0 then -i else i), H, I.tok _, ⟨_, rfl⟩, q⟩
theorem call_max2 (hc : X.calm = true) : CallR X (.builtin "max") (fun xs H Q => ∃ i j, xs = [.int i, .int j] ∧ Q (.int (if j > i then j else i)) H) := by
  intro pins s σ H xs us Q I r h
  obtain ⟨i, j, rfl, q⟩ := h
  obtain ⟨u, w', rfl, ⟨t, rfl⟩, ⟨t', rfl⟩⟩ := vals2 r
  refine max_two_ints (I.ok.hd hc) fun h' tk k => ⟨_, H, I.kept k, ?_, q⟩
  by_cases hj : j > i
  · rw [if_pos hj, if_pos hj]; exact ⟨_, rfl⟩
  · rw [if_neg hj, if_neg hj]; exact ⟨_, rfl⟩
theorem call_min2 (hc : X.calm = true) : CallR X (.builtin "min") (fun xs H Q => ∃ i j, xs = [.int i, .int j] ∧ Q (.int (if j < i then j else i)) H) := by
  intro pins s σ H xs us Q I r h
  obtain ⟨i, j, rfl, q⟩ := h
  obtain ⟨u, w', rfl, ⟨t, rfl⟩, ⟨t', rfl⟩⟩ := vals2 r
  refine min_two_ints (I.ok.hd hc) fun h' tk k => ⟨_, H, I.kept k, ?_, q⟩
  by_cases hj : j < i
  · rw [if_pos hj, if_pos hj]; exact ⟨_, rfl⟩
  · rw [if_neg hj, if_neg hj]; exact ⟨_, rfl⟩
theorem call_int1 : CallR X (.type "int") (fun xs H Q => (∃ i, xs = [.int i] ∧ Q (.int i) H) ∨ ∃ k, xs = [.bl k] ∧ Q (.int (if k then 1 else 0)) H) := by
  intro pins s σ H xs us Q I r h
  rcases h with ⟨i, rfl, q⟩ | ⟨k, rfl, q⟩
  · obtain ⟨u, rfl, t, rfl⟩ := vals1 r
    exact call_int_int ⟨.int i, H, I, ⟨_, rfl⟩, q⟩
  · obtain ⟨u, rfl, r1⟩ := vals1 r
    cases r1
    exact call_int_bool ⟨.int (if k then 1 else 0), H, I.tok _, ⟨_, rfl⟩, q⟩
theorem call_bool1 : CallR X (.type "bool") (fun xs H Q => (∃ i, xs = [.int i] ∧ Q (.bl (i != 0)) H) ∨ ∃ k, xs = [.bl k] ∧ Q (.bl k) H) := by
  intro pins s σ H xs us Q I r h
  rcases h with ⟨i, rfl, q⟩ | ⟨k, rfl, q⟩
  · obtain ⟨u, rfl, t, rfl⟩ := vals1 r
    exact call_bool_int ⟨.bl (i != 0), H, I, rfl, q⟩
  · obtain ⟨u, rfl, r1⟩ := vals1 r
    cases r1
    exact call_bool_bool ⟨.bl k, H, I, rfl, q⟩
theorem call_str_int : CallR X (.type "str") (fun xs H Q => ∃ i, xs = [.int i] ∧ i.natAbs.log2 < 1920 ∧ Q (.str (toString i)) H) := by
  intro pins s σ H xs us Q I r h
  obtain ⟨i, rfl, hz, q⟩ := h
  obtain ⟨u, rfl, t, rfl⟩ := vals1 r
  exact PySem.P.str_of_int hz ⟨.str _, H, I.tok _, ⟨_, rfl⟩, q⟩
theorem call_ord : CallR X (.builtin "ord") (fun xs H Q => ∃ x, xs = [.str x] ∧ x.length = 1 ∧ Q (.int (x.cps.getD 0 0 : Nat)) H) := by
  intro pins s σ H xs us Q I r h
  obtain ⟨x, rfl, hz, q⟩ := h
  obtain ⟨u, rfl, t, rfl⟩ := vals1 r
  exact ord_of_one hz ⟨.int _, H, I.tok _, ⟨_, rfl⟩, q⟩
theorem call_chr : CallR X (.builtin "chr") (fun xs H Q => ∃ i, xs = [.int i] ∧ 0 ≤ i ∧ i ≤ 1114111 ∧ Q (.str ⟨#[i.toNat]⟩) H) := by
  intro pins s σ H xs us Q I r h
  obtain ⟨i, rfl, h0, h1, q⟩ := h
  obtain ⟨u, rfl, t, rfl⟩ := vals1 r
  exact chr_of_range h0 h1 ⟨.str _, H, I.tok _, ⟨_, rfl⟩, q⟩
def LenV (K : PySem.W.Frag) (x : V) (H : Hp) (n : Nat) : Prop :=
  match x with
  | .str y => y.length ≤ sizeLine ∧ n = y.length
  | .byt y => y.size ≤ sizeLine ∧ n = y.size
  | .ref p => (∃ xs, SqL K H p xs ∧ n = xs.length) ∨ ∃ xs, SqT K H p xs ∧ n = xs.length
  | _ => False
theorem call_len : CallR X (.builtin "len") (fun xs H Q => ∃ x n, xs = [x] ∧ LenV X.K x H n ∧ Q (.int n) H) := by
  intro pins s σ H xs us Q I r h
  obtain ⟨x, n, rfl, e, q⟩ := h
  obtain ⟨u, rfl, rx⟩ := vals1 r
  have hl := line63
  have hs : sizeLine = 16777216 := sizeLine_eq
  cases x with
  | str y =>
    obtain ⟨t, rfl⟩ := rx
    obtain ⟨hy, e'⟩ : y.length ≤ sizeLine ∧ n = y.length := e
    subst e'
    exact len_str (by omega) ⟨.int _, H, I.tok _, ⟨_, rfl⟩, q⟩
  | byt y =>
    obtain ⟨t, rfl⟩ := rx
    obtain ⟨hy, e'⟩ : y.size ≤ sizeLine ∧ n = y.size := e
    subst e'
    exact PySem.W.len_bytes (by omega) ⟨.int _, H, I.tok _, ⟨_, rfl⟩, q⟩
  | ref p =>
    cases rx
    have e' : (∃ xs, SqL X.K H p xs ∧ n = xs.length) ∨ ∃ xs, SqT X.K H p xs ∧ n = xs.length := e
    rcases e' with ⟨xs, hx, e'⟩ | ⟨xs, hx, e'⟩
    · subst e'
      obtain ⟨its, r', pl, hz⟩ := I.list hx
      have hlen := r'.length
      exact Calls.call_len_list pl.isList (by simp only [List.size_toArray]; omega) ⟨.int xs.length, H, I.tok _, ⟨_, by simp only [List.size_toArray]; rw [hlen]⟩, q⟩
    · subst e'
      obtain ⟨its, r', pl, hz⟩ := I.tuple hx
      have hlen := r'.length
      exact len_tuple pl (by simp only [List.size_toArray]; omega) ⟨.int xs.length, H, I.tok _, ⟨_, by simp only [List.size_toArray]; rw [hlen]⟩, q⟩
  | _ => exact (show False from e).elim
theorem call_divmod : CallR X (.builtin "divmod") (fun xs H Q => ∃ i j, xs = [.int i, .int j] ∧ CDiv i j ∧ ∀ p, H p = none → Q (.ref p) (upd H p (.tup [.int (i / j), .int (i % j)]))) := by
  intro pins s σ H xs us Q I r h
  obtain ⟨i, j, rfl, ⟨h1, h2⟩, q⟩ := h
  obtain ⟨u, w', rfl, ⟨t, rfl⟩, ⟨t', rfl⟩⟩ := vals2 r
  refine divmod_int (by omega) ?_ (.inl (PyProof.noPylong_small (by omega)))
  rw [Int.fdiv_eq_ediv_of_nonneg i (by omega), Int.fmod_eq_emod_of_nonneg i (by omega)]
  have hn : H s.heap.objs.size = none := I.hok.fresh (Nat.le_refl _)
  refine ⟨.ref s.heap.objs.size, _, ?_, rfl, q _ hn⟩
  refine I.laid (fun b o e => Heap.get?_push_of_some _ e) (Nat.le_refl _) ⟨by simp only [List.length_cons, List.length_nil]; rw [sizeLine_eq]; decide, [.int (i / j) s.toks, .int (i % j) (s.toks + 1)], .cons ⟨_, rfl⟩ (.cons ⟨_, rfl⟩ .nil), ?_⟩
  exact ⟨_, Heap.get?_push_size s.heap rfl, rfl, 0, rfl⟩
end
end L2
namespace L2
open PySem PySem.Spec PyProof.Rows
structure ObjM (h : Heap) (x dx C : Addr) (mA : Str → Option Value) : Prop where
  obj : h.get? x = some (PySem.W.instObj C dx)
  ns : h.Ns1 dx mA
  ne : dx ≠ x
theorem lookIn_ns {h : Heap} {dx : Addr} {mA : Str → Option Value} (n : h.Ns1 dx mA) : ∃ od, h.get? dx = some od ∧ ∀ name, PySem.W.lookIn name od = some (mA name) := by
  obtain ⟨o, es, ep, ho, hd, hk, _, hm⟩ := n
  refine ⟨o, ho, fun name => ?_⟩
  have e := hm name
  unfold nsFind findBy at e
  rw [← Array.find?_toList] at e
  unfold PySem.W.lookIn
  rw [hd]
  dsimp only
  split
  · rename_i y q
    rw [q] at e
    exact congrArg some e
  · rename_i q
    rw [q] at e
    have a : es.toList.any (·.refKey) = false := by
      rw [List.any_eq_false]
      intro y hy
      obtain ⟨z, t, hkey⟩ := hk y (Array.mem_toList_iff.mp hy)
      simp [DictEntry.refKey, hkey]
    have a' : ¬ es.toList.any (·.refKey) = true := by rw [a]; exact Bool.false_ne_true
    rw [if_neg a']
    exact congrArg some e
theorem ObjM.look {h : Heap} {x dx C : Addr} {mA : Str → Option Value} (I : ObjM h x dx C mA) : ∃ od, PySem.W.InstAt h x (PySem.W.instObj C dx) C (some od) ∧ ∀ name, PySem.W.lookIn name od = some (mA name) :=
  let ⟨od, ho, hl⟩ := lookIn_ns I.ns
  ⟨od, ⟨I.obj, rfl, rfl, ho⟩, hl⟩
section
variable {prog : Program} {w : World} {A : Around} {E : Value → Shared → Prop} {s : Shared} {K : PySem.W.Frag} {x dx C f : Addr} {mA : Str → Option Value} {name : Str} {v : Value}
theorem get_map {expr : Bool} {Q : Value → Shared → Prop} (X : K.In s.heap) (I : ObjM s.heap x dx C mA) (hg : PySem.W.plainGet K C name = true) (hh : PySem.W.hasDictIn K C = true)
    (ha : PySem.W.findIn K (.ref C) name = some none) (hv : mA name = some v) (hv' : PySem.W.handedIn v = true) (h : Q v { s with toks := s.toks + 1 }) :
    wpAny (model prog w) A (getAttr (.ref x) name expr) Q E s := by
  obtain ⟨od, J, hl⟩ := I.look
  exact PySem.W.get_value X J (PySem.W.plainGet_of hg).1 (PySem.W.findObj_own hh ha rfl (by rw [hl, hv])) hv' h
theorem get_const {expr : Bool} {a : Value} {Q : Value → Shared → Prop} (X : K.In s.heap) (I : ObjM s.heap x dx C mA) (hg : PySem.W.plainGet K C name = true) (hh : PySem.W.hasDictIn K C = true)
    (ha : PySem.W.findIn K (.ref C) name = some (some a)) (hn : PySem.W.specialIn K a "__get__" = some none) (hc : PySem.W.copiedNames.contains name = false) (hv : mA name = none) (hv' : PySem.W.handedIn a = true)
    (h : Q a { s with toks := s.toks + 1 }) : wpAny (model prog w) A (getAttr (.ref x) name expr) Q E s := by
  obtain ⟨od, J, hl⟩ := I.look
  exact PySem.W.get_value X J (PySem.W.plainGet_of hg).1 (PySem.W.findObj_cls hh ha hn hv' hc (by rw [hl, hv])) hv' h
theorem get_meth {pl : Sem Bool} {Q : Value × List Value → Shared → Prop} (X : K.In s.heap) (I : ObjM s.heap x dx C mA) (hg : PySem.W.plainGet K C name = true)
    (hf : PySem.W.findIn K (.ref C) name = some (some (.ref f))) (ht : PySem.W.isFn K (.ref f) = true) (hv : mA name = none) (h : Q (.ref f, [.ref x]) s) :
    wpAny (model prog w) A (getMethod (.ref x) name pl) Q E s := by
  obtain ⟨od, J, hl⟩ := I.look
  exact PySem.W.method_fn X J (PySem.W.plainGet_of hg).1 (PySem.W.plainGet_of hg).2 hf (beq_iff_eq.mp ht) (by show (PySem.W.lookIn name od).map (·.isSome) = some false; rw [hl, hv]; rfl) h
theorem set_map {ns : List Str} {Q : Unit → Shared → Prop} (X : K.In s.heap) (I : ObjM s.heap x dx C mA)
    (hs : PySem.W.findIn K (.ref C) "__setattr__" = some (some (.builtin "object.__setattr__"))) (hp : PySem.W.plainOver K C = true) (ht : PySem.W.takerIn K C name = some none) (hh : PySem.W.hasDictIn K C = true)
    (hw : PySem.Within mA ns) (hsz : ns.length ≤ sizeLine)
    (h : ∀ h', ObjM h' x dx C (fun y => if y = name then some v else mA y) → Heap.SameBut dx s.heap h' → Q () { s with heap := h', toks := s.toks + 2 }) :
    wpAny (model prog w) A (setAttr (.ref x) name v) Q E s := by
  obtain ⟨od, J, hl⟩ := I.look
  refine PySem.W.set_plain X J hs (PySem.W.osa_open (s := { s with toks := s.toks + 1 }) (r := none) X J hp ht fun b => ?_)
  obtain ⟨cd, hc, hd'⟩ := PySem.W.any_some hh
  have hx : s.heap.get? x = some ⟨.ref C, some dx, .plain, #[]⟩ := I.obj
  refine wpAny_bind (wpAny_pure (wpAny_bind (wpAny_bind (wpAny_loadPart hx (wpAny_bind (PySem.W.Looks.here (s := { s with toks := s.toks + 1 }) (PySem.W.looks_clsIn X hc) ?_))))))
  rw [hd']
  refine wpAny_pure (a := some dx) (wpAny_bind (wpAny_pure (wpAny_bind ?_)))
  refine wpAny_nsSet1 (s := { s with toks := s.toks + 1 }) I.ns fun h' hn2 hs2 => ?_
  obtain ⟨oD, esD, epD, hoD, hdD, hcD⟩ := hn2.count (PySem.Within.cons name v hw)
  refine wpAny_bind (wpAny_lookBehind hoD (by rw [hdD]; exact pastItsLine_dict (Nat.le_trans hcD (by rw [List.length_cons]; omega))) ?_)
  exact wpAny_pure (h _ ⟨(hs2.2 _ (Ne.symm I.ne)).trans I.obj, hn2, I.ne⟩ hs2)
theorem make_map {R : Result → Shared → Prop} {vs : List Value} {kw : List (Str × Value)} (X : K.In s.heap) (hm : PySem.W.makesIn K C = true)
    (hi : PySem.W.findIn K (.ref C) "__init__" = some (some (.ref f))) (hf : PySem.W.typeIn K (.ref f) = some (.type "function"))
    (h : codeAny (model prog w) (A.under (.builtin "type.__call__" ⟨.ref C :: vs, kw⟩)) (.call (.ref f) ⟨.ref (s.heap.objs.size + 1) :: vs, kw⟩) (PySem.W.InitBack (s.heap.objs.size + 1) R)
      { s with heap := (s.heap.push PySem.W.emptyDict).push (PySem.W.instObj C s.heap.objs.size) }) :
    codeAny (model prog w) A (.call (.ref C) ⟨vs, kw⟩) R s := by
  obtain ⟨hh, g, d, t, os⟩ := s
  exact PySem.W.make_core (PySem.W.makes_of X hm) (PySem.W.looks_findIn X hi) (fun self => PySem.W.bind_fn X self hf) (.inl rfl) h
theorem make_map0 {R : Result → Shared → Prop} (X : K.In s.heap) (hm : PySem.W.makesIn K C = true)
    (hi : PySem.W.findIn K (.ref C) "__init__" = some (some (.builtin "object.__init__")))
    (hb : ∀ self, PySem.W.Looks (model prog w) s.heap (bindSpecial (.builtin "object.__init__") self) (.builtin "object.__init__", [self]))
    (h : codeAny (model prog w) (A.under (.builtin "type.__call__" ⟨[.ref C], []⟩)) (.call (.builtin "object.__init__") ⟨[.ref (s.heap.objs.size + 1)], []⟩) (PySem.W.InitBack (s.heap.objs.size + 1) R)
      { s with heap := (s.heap.push PySem.W.emptyDict).push (PySem.W.instObj C s.heap.objs.size) }) :
    codeAny (model prog w) A (.call (.ref C) ⟨[], []⟩) R s := by
  obtain ⟨hh, g, d, t, os⟩ := s
  exact PySem.W.make_core (PySem.W.makes_of X hm) (PySem.W.looks_findIn X hi) hb (.inr ⟨rfl, rfl⟩) h
end
def putF (f : Str) (v : V) : List (Str × V) → List (Str × V)
  | [] => [(f, v)]
  | (g, x) :: r => if g = f then (g, v) :: r else (g, x) :: putF f v r
theorem lookup_putF (f g : Str) (v : V) : ∀ fs : List (Str × V), (putF f v fs).lookup g = if g = f then some v else fs.lookup g
  | [] => by
    show List.lookup g [(f, v)] = _
    by_cases h : g = f
    · have hb : (g == f) = true := beq_iff_eq.mpr h
      simp only [List.lookup, hb, if_pos h]
    · have hb : (g == f) = false := beq_eq_false_iff_ne.mpr h
      simp only [List.lookup, hb, if_neg h]
  | (k, x) :: r => by
    have ih := lookup_putF f g v r
    rw [show putF f v ((k, x) :: r) = (if k = f then (k, v) :: r else (k, x) :: putF f v r) from rfl]
    by_cases hk : k = f
    · rw [if_pos hk]
      by_cases h : g = k
      · have hb : (g == k) = true := beq_iff_eq.mpr h
        simp only [List.lookup, hb, if_pos (h.trans hk)]
      · have hb : (g == k) = false := beq_eq_false_iff_ne.mpr h
        simp only [List.lookup, hb, if_neg (fun e : g = f => h (e.trans hk.symm))]
    · rw [if_neg hk]
      by_cases h : g = k
      · have hb : (g == k) = true := beq_iff_eq.mpr h
        simp only [List.lookup, hb, if_neg (fun e : g = f => hk (h.symm.trans e))]
      · have hb : (g == k) = false := beq_eq_false_iff_ne.mpr h
        simp only [List.lookup, hb]
        exact ih
theorem keys_putF (f : Str) (v : V) : ∀ fs : List (Str × V), f ∈ (putF f v fs).map (·.1) ∧ ∀ g, g ∈ fs.map (·.1) → g ∈ (putF f v fs).map (·.1)
  | [] => ⟨by simp [putF], fun g h => by simp at h⟩
  | (k, x) :: r => by
    obtain ⟨i1, i2⟩ := keys_putF f v r
    rw [show putF f v ((k, x) :: r) = (if k = f then (k, v) :: r else (k, x) :: putF f v r) from rfl]
    by_cases hk : k = f
    · rw [if_pos hk]
      subst hk
      exact ⟨by simp, fun g h => by simpa using h⟩
    · rw [if_neg hk]
      refine ⟨?_, fun g h => ?_⟩
      · rw [List.map_cons]
        exact List.mem_cons_of_mem _ i1
      · rw [List.map_cons] at h ⊢
        rcases List.mem_cons.mp h with e | e
        · exact List.mem_cons.mpr (.inl e)
        · exact List.mem_cons_of_mem _ (i2 g e)
theorem length_putF (f : Str) (v : V) : ∀ fs : List (Str × V), (putF f v fs).length ≤ fs.length + 1
  | [] => by simp [putF]
  | (k, x) :: r => by
    have ih := length_putF f v r
    rw [show putF f v ((k, x) :: r) = (if k = f then (k, v) :: r else (k, x) :: putF f v r) from rfl]
    by_cases hk : k = f
    · rw [if_pos hk, List.length_cons, List.length_cons]; omega
    · rw [if_neg hk, List.length_cons, List.length_cons]; omega
theorem RelO.some_of {v : V} {o : Option Value} (r : RelO (some v) o) : ∃ u, o = some u ∧ RelV v u := by
  cases o with
  | none => exact (show False from r).elim
  | some u => exact ⟨u, rfl, r⟩
theorem RelO.none_of {o : Option Value} (r : RelO none o) : o = none := by
  cases o with
  | none => rfl
  | some u => exact (show False from r).elim
theorem handed_of {v : V} {u : Value} (r : RelV v u) : PySem.W.handedIn u = true := by
  cases v with
  | non => cases (show u = Value.none from r); rfl
  | bl b => cases (show u = Value.bool b from r); rfl
  | int i => obtain ⟨t, e⟩ := (show ∃ t, u = Value.int i t from r); cases e; rfl
  | str x => obtain ⟨t, e⟩ := (show ∃ t, u = Value.str x t from r); cases e; rfl
  | byt b => obtain ⟨t, e⟩ := (show ∃ t, u = Value.bytes b t from r); cases e; rfl
  | flt b => obtain ⟨t, e⟩ := (show ∃ t, u = Value.float b t from r); cases e; rfl
  | ref a => cases (show u = Value.ref a from r); rfl
  | ty n => cases (show u = Value.type n from r); rfl
section
variable {P : Program} {w : World} {H H' : Hp} {h h' : Heap} {a C dx : Addr} {fs fs' : List (Str × V)}
theorem ins_get (hok : HOk P w H h) (e : H a = some (.ins C dx fs)) : ∃ mA, ObjM h a dx C mA ∧ (∀ f, RelO (fs.lookup f) (mA f)) ∧ PySem.Within mA (fs.map (·.1)) ∧ fs.length ≤ 1000 ∧ H dx = some (.own a) := by
  obtain ⟨d, z, ne, ob, mA, n, r, q⟩ := (show ObjOk P w H h a (.ins C dx fs) from hok a _ e)
  exact ⟨mA, ⟨ob, n, ne⟩, r, q, z, d⟩
end
structure Cls (K : PySem.W.Frag) (C : Addr) : Prop where
  pg : PySem.W.plainGet K C Str.empty = true
  hd : PySem.W.hasDictIn K C = true
  po : PySem.W.plainOver K C = true
  sa : PySem.W.findIn K (.ref C) "__setattr__" = some (some (.builtin "object.__setattr__"))
theorem Cls.get {K : PySem.W.Frag} {C : Addr} (c : Cls K C) (f : Str) : PySem.W.plainGet K C f = true := c.pg
def NoAttr (K : PySem.W.Frag) (C : Addr) (f : Str) : Prop := PySem.W.findIn K (.ref C) f = some none
theorem NoAttr.taker {K : PySem.W.Frag} {C : Addr} {f : Str} (n : NoAttr K C f) : PySem.W.takerIn K C f = some none := by
  unfold PySem.W.takerIn
  rw [show PySem.W.findIn K (.ref C) f = some none from n]
  rfl
structure Con (K : PySem.W.Frag) (C : Addr) (f : Str) (v : V) (u : Value) : Prop where
  at_ : PySem.W.findIn K (.ref C) f = some (some u)
  rel : RelV v u
  get : PySem.W.specialIn K u "__get__" = some none
  cp : PySem.W.copiedNames.contains f = false
structure Meth (K : PySem.W.Frag) (C : Addr) (m : Str) (f : Addr) : Prop where
  at_ : PySem.W.findIn K (.ref C) m = some (some (.ref f))
  fn : PySem.W.isFn K (.ref f) = true
  kp : PySem.W.keepIn K (.ref f) = true
section
variable {X : Cx} {pins : List (Addr × Obj)} {σ : St} {H : Hp} {s : Shared} {a C dx : Addr} {fs : List (Str × V)} {f : Str} {v : V} {A : Around} {E : Value → Shared → Prop}
theorem getattr_ok {b : Bool} {Q : Value → Shared → Prop} (I : Inv X pins σ H s) (e : H a = some (.ins C dx fs)) (c : Cls X.K C) (n : NoAttr X.K C f) (l : fs.lookup f = some v)
    (h : ∀ u s', Inv X pins σ H s' → RelV v u → Q u s') : wpAny (model X.prog X.w) A (getAttr (.ref a) f b) Q E s := by
  obtain ⟨mA, O, r, _, _, _⟩ := ins_get I.hok e
  obtain ⟨u, hu, ru⟩ := RelO.some_of (v := v) (o := mA f) (by rw [← l]; exact r f)
  exact get_map I.kIn O (c.get f) c.hd n hu (handed_of ru) (h u _ (I.tok _) ru)
theorem getcon_ok {b : Bool} {u : Value} {Q : Value → Shared → Prop} (I : Inv X pins σ H s) (e : H a = some (.ins C dx fs)) (c : Cls X.K C) (k : Con X.K C f v u) (l : fs.lookup f = none)
    (h : ∀ s', Inv X pins σ H s' → Q u s') : wpAny (model X.prog X.w) A (getAttr (.ref a) f b) Q E s := by
  obtain ⟨mA, O, r, _, _, _⟩ := ins_get I.hok e
  have hn : mA f = none := RelO.none_of (by rw [← l]; exact r f)
  exact get_const I.kIn O (c.get f) c.hd k.at_ k.get k.cp hn (handed_of k.rel) (h _ (I.tok _))
theorem getmeth_ok {m : Str} {g : Addr} {pl : Sem Bool} {Q : Value × List Value → Shared → Prop} (I : Inv X pins σ H s) (e : H a = some (.ins C dx fs)) (c : Cls X.K C) (k : Meth X.K C m g) (l : fs.lookup m = none)
    (h : Q (.ref g, [.ref a]) s) : wpAny (model X.prog X.w) A (getMethod (.ref a) m pl) Q E s := by
  obtain ⟨mA, O, r, _, _, _⟩ := ins_get I.hok e
  have hn : mA m = none := RelO.none_of (by rw [← l]; exact r m)
  exact get_meth I.kIn O (c.get m) k.at_ k.fn hn h
theorem setattr_ok {y : V} {u : Value} {Q : Unit → Shared → Prop} (I : Inv X pins σ H s) (e : H a = some (.ins C dx fs)) (c : Cls X.K C) (n : NoAttr X.K C f) (hl : fs.length < 1000) (ry : RelV y u)
    (h : ∀ s', Inv X pins σ (upd H a (.ins C dx (putF f y fs))) s' → Q () s') : wpAny (model X.prog X.w) A (setAttr (.ref a) f u) Q E s := by
  obtain ⟨mA, O, r, wi, _, ho⟩ := ins_get I.hok e
  have hz : (fs.map (·.1)).length ≤ sizeLine := by rw [List.length_map, sizeLine_eq]; omega
  refine set_map I.kIn O c.sa c.po n.taker c.hd wi hz fun h' O' sb => h _ ?_
  have hd : ∃ o, h'.get? dx = some o := let ⟨o, _, _, e', _⟩ := O'.ns; ⟨o, e'⟩
  refine I.write (x := a) (e := dx) (by rw [e]; exact True.intro) (.inr ho) (fun b q hb z => (sb.2 b hb).trans z) hd ?_
  refine ⟨by rw [upd_ne O.ne]; exact ho, ?_, O.ne, O'.obj, _, O'.ns, fun g => ?_, fun g hg => ?_⟩
  · have := length_putF f y fs; omega
  · show RelO ((putF f y fs).lookup g) (if g = f then some u else mA g)
    rw [lookup_putF]
    by_cases q : g = f
    · rw [if_pos q, if_pos q]; exact ry
    · rw [if_neg q, if_neg q]; exact r g
  · by_cases q : g = f
    · rw [q]; exact (keys_putF f y fs).1
    · refine (keys_putF f y fs).2 g (wi g fun z => hg ?_)
      show (if g = f then some u else mA g) = none
      rw [if_neg q]; exact z
theorem Inv.made (I : Inv X pins σ H s) : Inv X pins σ (upd (upd H s.heap.objs.size (.own (s.heap.objs.size + 1))) (s.heap.objs.size + 1) (.ins C s.heap.objs.size []))
    { s with heap := (s.heap.push PySem.W.emptyDict).push (PySem.W.instObj C s.heap.objs.size) } := by
  have e1 : (s.heap.push PySem.W.emptyDict).get? s.heap.objs.size = some PySem.W.emptyDict := Heap.get?_push_size s.heap rfl
  have e2 : ((s.heap.push PySem.W.emptyDict).push (PySem.W.instObj C s.heap.objs.size)).get? (s.heap.objs.size + 1) = some (PySem.W.instObj C s.heap.objs.size) := by
    have := Heap.get?_push_size (s.heap.push PySem.W.emptyDict) (o := PySem.W.instObj C s.heap.objs.size) rfl
    rwa [Heap.size_push] at this
  have e3 : (s.heap.push PySem.W.emptyDict).Ns s.heap.objs.size (fun _ => none) := ⟨PySem.W.emptyDict, #[], _, e1, rfl, (fun e he => absurd he (by simp)), fun _ => rfl⟩
  have I1 := I.laid (a := s.heap.objs.size) (o := .own (s.heap.objs.size + 1)) (h' := s.heap.push PySem.W.emptyDict) (t' := s.toks) (fun b u q => Heap.get?_push_of_some _ q) (Nat.le_refl _) ⟨_, e1⟩
  refine I1.laid (a := s.heap.objs.size + 1) (o := .ins C s.heap.objs.size []) (t' := s.toks) (fun b u q => Heap.get?_push_of_some _ q) (Nat.le_of_eq (Heap.size_push _ _)) ?_
  have ne : s.heap.objs.size ≠ s.heap.objs.size + 1 := Nat.ne_of_lt (Nat.lt_succ_self _)
  refine ⟨by rw [upd_ne ne, upd_same], Nat.zero_le _, ne, e2, fun _ => none, (Heap.Ns1.of_empty e3).at fun o q => Heap.get?_push_of_some _ q, fun _ => True.intro, fun y hy => absurd rfl hy⟩
theorem attr_of {prog : Program} {w : World} {env : Env} {e : Expr} {f : Str} {pos : Pos} {s : Shared} {Q : Value → Shared → Prop} (hb : attributeBase e f env (eval e env) = eval e env)
    (h : wpAny (model prog w) A (eval e env) (fun o s₁ => wpAny (model prog w) A (getAttr o f true) Q E s₁) E s) : wpAny (model prog w) A (eval (.Attribute e f pos) env) Q E s :=
  Attribute_any_ h (by rw [arm_eval_Attribute, hb])
end
def tFld (K : PySem.W.Frag) (ta : TE) (f : Str) : TE := fun σ H Q => ta σ H fun x H1 => ∃ a C dx fs v, x = .ref a ∧ H1 a = some (.ins C dx fs) ∧ Cls K C ∧ NoAttr K C f ∧ fs.lookup f = some v ∧ Q v H1
def tCon (K : PySem.W.Frag) (ta : TE) (f : Str) : TE := fun σ H Q => ta σ H fun x H1 => ∃ a C dx fs v u, x = .ref a ∧ H1 a = some (.ins C dx fs) ∧ Cls K C ∧ Con K C f v u ∧ fs.lookup f = none ∧ Q v H1
def sFld (K : PySem.W.Frag) (ta tv : TE) (f : Str) : TS := fun D σ H => tv σ H fun y H1 => ta σ H1 fun x H2 => ∃ a C dx fs, x = .ref a ∧ H2 a = some (.ins C dx fs) ∧ Cls K C ∧ NoAttr K C f ∧ fs.length < 1000 ∧
  D.nx σ (upd H2 a (.ins C dx (putF f y fs)))
def InOp (X : Cx) (op : Operator) (rd : V → V → Hp → VK → Prop) : Prop :=
  ∀ (pins : List (Addr × Obj)) (s : Shared) (σ : St) (H : Hp) (x y : V) (u v : Value) (Q : VK), Inv X pins σ H s → RelV x u → RelV y v → rd x y H Q → wpAny (model X.prog X.w) X.A (inplaceOp op u v) (EP X pins σ Q) X.xe s
def sFldAug (K : PySem.W.Frag) (ta tv : TE) (rd : V → V → Hp → VK → Prop) (f : Str) : TS := fun D σ H => ta σ H fun x H1 => ∃ a C dx fs v, x = .ref a ∧ H1 a = some (.ins C dx fs) ∧ Cls K C ∧ NoAttr K C f ∧ fs.lookup f = some v ∧
  tv σ H1 fun y H2 => rd v y H2 fun z H3 => ∃ dx' fs', H3 a = some (.ins C dx' fs') ∧ fs'.length < 1000 ∧ D.nx σ (upd H3 a (.ins C dx' (putF f z fs')))
section
variable {X : Cx} {o e value : Expr} {f : Str} {pos pos' tpos : Pos} {ta tv : TE}
theorem pe_fld (he : PE X e ta) (hb : attributeBase e f X.env (eval e X.env) = eval e X.env) : PE X (.Attribute e f pos) (tFld X.K ta f) := by
  intro pins s σ H Q I h
  refine attr_of hb (thn (he pins s σ H _ I h) fun u s1 ⟨x, H1, I1, rx, a, C, dx, fs, v, ex, ea, c, n, l, q⟩ => ?_)
  subst ex
  obtain rfl : u = Value.ref a := rx
  exact getattr_ok I1 ea c n l fun u' s2 I2 ru => ⟨v, H1, I2, ru, q⟩
theorem pe_con (he : PE X e ta) (hb : attributeBase e f X.env (eval e X.env) = eval e X.env) : PE X (.Attribute e f pos) (tCon X.K ta f) := by
  intro pins s σ H Q I h
  refine attr_of hb (thn (he pins s σ H _ I h) fun u s1 ⟨x, H1, I1, rx, a, C, dx, fs, v, u0, ex, ea, c, k, l, q⟩ => ?_)
  subst ex
  obtain rfl : u = Value.ref a := rx
  exact getcon_ok I1 ea c k l fun s2 I2 => ⟨v, H1, I2, k.rel, q⟩
theorem ps_fld (ha : PE X o ta) (hv : PE X value tv) (hs : swapsWith value (some (.Attribute o f pos')) pos.line X.env = pure false) : PS X (.Assign [.Attribute o f pos'] value pos) (sFld X.K ta tv f) := by
  intro pins s σ H D I h
  refine plainObj_wpAny_Assign_Attribute (thn (hv pins s σ H _ I h) fun u s1 ⟨y, H1, I1, ry, q⟩ => thn (ha pins s1 σ H1 _ I1 q) fun ov s2 ⟨x, H2, I2, rx, a, C, dx, fs, ex, ea, c, n, l, q2⟩ => ?_) hs
  subst ex
  obtain rfl : ov = Value.ref a := rx
  exact setattr_ok I2 ea c n l ry fun s3 I3 => ⟨σ, _, I3, q2⟩
theorem ps_fldaug {op : Operator} {rd : V → V → Hp → VK → Prop} (ha : PE X o ta) (hv : PE X value tv) (hop : InOp X op rd) : PS X (.AugAssign (.Attribute o f tpos) op value pos) (sFldAug X.K ta tv rd f) := by
  intro pins s σ H D I h
  refine wpAny_AugAssign_AttributeAny (thn (ha pins s σ H _ I h) fun ov s1 ⟨x, H1, I1, rx, a, C, dx, fs, v, ex, ea, c, n, l, q⟩ => ?_)
  subst ex
  obtain rfl : ov = Value.ref a := rx
  refine getattr_ok I1 ea c n l fun u s2 I2 ru => thn (hv pins s2 σ H1 _ I2 q) fun w3 s3 ⟨y, H2, I3, ry, q3⟩ => thn (hop pins s3 σ H2 v y u w3 _ I3 ru ry q3) fun w4 s4 ⟨z, H3, I4, rz, dx', fs', ea', l', q4⟩ => ?_
  exact setattr_ok I4 ea' c n l' rz fun s5 I5 => ⟨σ, _, I5, q4⟩
def rAdd : V → V → Hp → VK → Prop := fun x y H Q => ∃ i j, x = .int i ∧ y = .int j ∧ Q (.int (i + j)) H
def rSub : V → V → Hp → VK → Prop := fun x y H Q => ∃ i j, x = .int i ∧ y = .int j ∧ Q (.int (i - j)) H
theorem in_add : InOp X .Add rAdd := by
  rintro pins s σ H x y u v Q I rx ry ⟨i, j, rfl, rfl, q⟩
  obtain ⟨t, rfl⟩ := (show ∃ t, u = Value.int i t from rx)
  obtain ⟨t', rfl⟩ := (show ∃ t', v = Value.int j t' from ry)
  exact PyProof.Rows.iadd_int ⟨.int (i + j), H, I.tok _, ⟨_, rfl⟩, q⟩
theorem in_sub : InOp X .Sub rSub := by
  rintro pins s σ H x y u v Q I rx ry ⟨i, j, rfl, rfl, q⟩
  obtain ⟨t, rfl⟩ := (show ∃ t, u = Value.int i t from rx)
  obtain ⟨t', rfl⟩ := (show ∃ t', v = Value.int j t' from ry)
  exact PyProof.Rows.isub_int ⟨.int (i - j), H, I.tok _, ⟨_, rfl⟩, q⟩
theorem methcall_of {pl : Sem Bool} {m : Str} {apos : Pos} {args : List Expr} {pins : List (Addr × Obj)} {s : Shared} {σ : St} {H : Hp} {Q : Value → Shared → Prop} {te : TE} (he : PE X e te) (I : Inv X pins σ H s)
    (h : te σ H fun x H1 => ∃ a C dx fs g, x = .ref a ∧ H1 a = some (.ins C dx fs) ∧ Cls X.K C ∧ Meth X.K C m g ∧ fs.lookup m = none ∧
      ∀ s1, Inv X pins σ H1 s1 → wpAny (model X.prog X.w) X.A (callWith pos (.ref g) [.ref a] (backTo pos (starEach args X.env)) (backToKw pos (keywordEach [] X.env))) Q X.xe s1)
    (ht : eval (.Call (.Attribute e m apos) args [] pos) X.env = (do
      let ov ← eval e X.env
      standAt apos.atName
      let (f, first) ← holding [ov] (getMethod ov m pl)
      callWith pos f first (backTo pos (starEach args X.env)) (backToKw pos (keywordEach [] X.env)))) :
    wpAny (model X.prog X.w) X.A (eval (.Call (.Attribute e m apos) args [] pos) X.env) Q X.xe s := by
  refine PySem.W.methodCall_KW (pl := pl) (thn (he pins s σ H _ I h) fun u s1 ⟨x, H1, I1, rx, a, C, dx, fs, g, ex, ea, c, k, l, q⟩ => ?_) ht
  subst ex
  obtain rfl : u = Value.ref a := rx
  exact getmeth_ok I1 ea c k l (q s1 I1)
end
section
variable {X : Cx} {pins : List (Addr × Obj)} {σ : St} {H : Hp} {s : Shared} {A : Around} {E : Value → Shared → Prop} {Q : Value → Shared → Prop} {c : Value} {b : Bool}
inductive TyOf (K : PySem.W.Frag) (H : Hp) : V → Value → Prop where
  | non : TyOf K H .non (.type "NoneType")
  | bl (x : Bool) : TyOf K H (.bl x) (.type "bool")
  | int (i : Int) : TyOf K H (.int i) (.type "int")
  | str (x : Str) : TyOf K H (.str x) (.type "str")
  | flt (x : UInt64) : TyOf K H (.flt x) (.type "float")
  | lst {a : Addr} {xs : List V} (e : H a = some (.lst xs)) : TyOf K H (.ref a) (.type "list")
  | frz {a : Addr} {o : Obj} {xs : List V} (e : H a = some (.frz o (.lst xs))) : TyOf K H (.ref a) (.type "list")
  | tup {a : Addr} {xs : List V} (e : H a = some (.tup xs)) : TyOf K H (.ref a) (.type "tuple")
  | dK {a : Addr} {kvs : List (Key × V)} (e : H a = some (.dK kvs)) : TyOf K H (.ref a) (.type "dict")
  | dT {a : Addr} {kvs : List (List Key × V)} (e : H a = some (.dT kvs)) : TyOf K H (.ref a) (.type "dict")
  | ins {a C dx : Addr} {fs : List (Str × V)} (e : H a = some (.ins C dx fs)) (cl : Cls K C) (ha : PySem.W.findIn K (.ref C) "__class__" = some (some (.builtin "object.__class__")))
      (hn : PySem.W.specialIn K (.builtin "object.__class__") "__get__" = some (some (.builtin "getset_descriptor.__get__"))) (htk : PySem.W.takesIn K (.builtin "object.__class__") = some true)
      (hm : PySem.W.mroIn K C (.type "object") = some true) : TyOf K H (.ref a) (.ref C)
theorem isinst_ok {x : V} {u t : Value} (I : Inv X pins σ H s) (rx : RelV x u) (ty : TyOf X.K H x t) (e : PySem.W.kitOne X.K t c = some b) (h : ∀ tk, Q (.bool b) { s with toks := tk }) :
    wpAny (model X.prog X.w) A (call (.builtin "isinstance") [u, c]) Q E s := by
  cases ty with
  | non => cases (show u = Value.none from rx); exact PySem.W.kia_one PySem.W.kitx_none I.kIn True.intro e (fun z => nomatch z) h
  | bl y => cases (show u = Value.bool y from rx); exact PySem.W.kia_one PySem.W.kitx_bool I.kIn True.intro e (fun z => nomatch z) h
  | int i => obtain ⟨t, q⟩ := (show ∃ t, u = Value.int i t from rx); cases q; exact PySem.W.kia_one PySem.W.kitx_int I.kIn True.intro e (fun z => nomatch z) h
  | str y => obtain ⟨t, q⟩ := (show ∃ t, u = Value.str y t from rx); cases q; exact PySem.W.kia_one PySem.W.kitx_str I.kIn True.intro e (fun z => nomatch z) h
  | flt y => obtain ⟨t, q⟩ := (show ∃ t, u = Value.float y t from rx); cases q; exact PySem.W.kia_one PySem.W.kitx_float I.kIn True.intro e (fun z => nomatch z) h
  | @lst a xs ea =>
    cases (show u = Value.ref a from rx)
    obtain ⟨_, _, n, _, h1⟩ := (show ObjOk X.prog X.w H s.heap a (.lst xs) from I.hok a _ ea)
    exact PySem.W.kia_one PySem.W.kitx_list I.kIn ⟨_, h1, rfl⟩ e (fun z => nomatch z) h
  | @frz a ob xs ea =>
    cases (show u = Value.ref a from rx)
    obtain ⟨_, _, _, n, _, h1⟩ := (show ObjOk X.prog X.w H s.heap a (.frz ob (.lst xs)) from I.hok a _ ea)
    exact PySem.W.kia_one PySem.W.kitx_list I.kIn ⟨_, h1, rfl⟩ e (fun z => nomatch z) h
  | @tup a xs ea =>
    cases (show u = Value.ref a from rx)
    obtain ⟨_, _, _, p⟩ := (show ObjOk X.prog X.w H s.heap a (.tup xs) from I.hok a _ ea)
    obtain ⟨o, h1, h2, _⟩ := p
    exact PySem.W.kia_one PySem.W.kitx_tuple I.kIn ⟨o, h1, h2⟩ e (fun z => nomatch z) h
  | @dK a kvs ea =>
    cases (show u = Value.ref a from rx)
    obtain ⟨_, _, vs, _, p⟩ := (show ObjOk X.prog X.w H s.heap a (.dK kvs) from I.hok a _ ea)
    obtain ⟨o, es, ep, h1, h2, _⟩ := p
    exact PySem.W.kia_one PySem.W.kitx_dict I.kIn ⟨o, h1, h2.1⟩ e (fun z => nomatch z) h
  | @dT a kvs ea =>
    cases (show u = Value.ref a from rx)
    obtain ⟨_, _, xs, _, o, es, ep, h1, h2, _⟩ := (show ObjOk X.prog X.w H s.heap a (.dT kvs) from I.hok a _ ea)
    exact PySem.W.kia_one PySem.W.kitx_dict I.kIn ⟨o, h1, h2.1⟩ e (fun z => nomatch z) h
  | @ins a C dx fs ea cl ha hn htk hm =>
    cases (show u = Value.ref a from rx)
    obtain ⟨mA, O, _⟩ := ins_get I.hok ea
    obtain ⟨od, J, _⟩ := O.look
    exact PySem.W.kia_one (PySem.W.kitx_own (cl.get _) cl.hd ha hn htk hm) I.kIn J e (fun z => nomatch z) h
end
end L2
namespace L2
open PySem PySem.Spec PyProof.Rows
structure Room (k : Nat) (A : Around) : Prop where
  hd : A.handled = none
  dp : A.depth + 3 * k + 5 < recursionLimit
  un : A.units + 16 * k + 200 < cLine
theorem Room.mono {j k : Nat} {A : Around} (r : Room k A) (h : j ≤ k) : Room j A := ⟨r.hd, by have := r.dp; omega, by have := r.un; omega⟩
theorem Room.deeper {k : Nat} {A : Around} (r : Room (k + 1) A) (env : Env) : Room k (A.deeper env) :=
  ⟨r.hd, by have := r.dp; show A.depth + 1 + 3 * k + 5 < _; omega, by have := r.un; show A.units + 3 + 16 * k + 200 < _; omega⟩
theorem Room.in1 {k : Nat} {A : Around} (r : Room (k + 1) A) : Room k A.in1 :=
  ⟨r.hd, by have := r.dp; show A.depth + 3 * k + 5 < _; omega, by have := r.un; show A.units + 1 + 16 * k + 200 < _; omega⟩
theorem make_depth {A : Around} {C : Addr} {us : List Value} {kw : List (Str × Value)} : (A.under (.builtin "type.__call__" ⟨.ref C :: us, kw⟩)).depth = A.depth + 1 := by
  first | rfl | simp [Around.under, Code.weight, Code.isCreation, Code.isGuard, Code.isCaller, Code.frames, Code.isFrame, guardIds]
theorem make_units {A : Around} {C : Addr} {us : List Value} {kw : List (Str × Value)} : (A.under (.builtin "type.__call__" ⟨.ref C :: us, kw⟩)).units = A.units + 1 := by
  first | rfl | simp [Around.under, Code.cUnits, Code.frames, Code.isFrame]
theorem Room.make {k : Nat} {A : Around} (r : Room (k + 1) A) (C : Addr) (us : List Value) (kw : List (Str × Value)) : Room k (A.under (.builtin "type.__call__" ⟨.ref C :: us, kw⟩)) :=
  ⟨r.hd, by have := r.dp; rw [make_depth]; omega, by have := r.un; rw [make_units]; omega⟩
theorem Room.depth {k : Nat} {A : Around} (r : Room k A) : A.depth < recursionLimit := by have := r.dp; omega
theorem Room.units {k : Nat} {A : Around} (r : Room k A) : A.units + 64 < cLine := by have := r.un; omega
theorem Room.units0 {k : Nat} {A : Around} (r : Room k A) : A.units < cLine := by have := r.un; omega
def tNil : TA := fun _ H Q => Q [] H
def tCons (ta : TE) (tr : TA) : TA := fun σ H Q => ta σ H fun x H1 => tr σ H1 fun xs H2 => Q (x :: xs) H2
section
variable {X : Cx} {e : Expr} {es : List Expr} {te : TE} {t : TA} {pos : Pos}
theorem pa_nil : PA X [] tNil := fun _ _ _ _ H Q I h => Calls.spliced_nil ⟨[], H, I, .nil, h⟩
theorem pa_cons (ha : PE X e te) (hr : PA X es t) (hs : starEach (e :: es) X.env = (false, eval e X.env) :: starEach es X.env := by rfl) : PA X (e :: es) (tCons te t) := by
  intro pos pins s σ H Q I h
  rw [hs]
  show wpAny _ _ (spliced ((false, eval e X.env) :: backTo pos (starEach es X.env))) _ _ s
  refine Calls.spliced_cons (thn (ha pins s σ H _ I h) fun u s1 ⟨x, H1, I1, r1, q1⟩ => ?_)
  exact thn (hr pos pins s1 σ H1 _ I1 q1) fun us s2 ⟨xs, H2, I2, r2, q2⟩ => ⟨x :: xs, H2, I2, .cons r1 r2, q2⟩
def tTup (t : TA) : TE := fun σ H Q => t σ H fun xs H1 => xs.length ≤ sizeLine ∧ ∀ p, H1 p = none → Q (.ref p) (upd H1 p (.tup xs))
def tLst (t : TA) : TE := fun σ H Q => t σ H fun xs H1 => xs.length ≤ sizeLine ∧ ∀ p, H1 p = none → Q (.ref p) (upd H1 p (.lst xs))
theorem pe_tup {x1} (h : PA X es t) : PE X (.Tuple es x1 pos) (tTup t) := by
  intro pins s σ H Q I hq
  refine wpAny_Tuple_spliced (thn (h pos pins s σ H _ I hq) fun us s1 ⟨xs, H1, I1, r, z, q⟩ => ⟨by rw [← r.length]; exact z, ?_⟩)
  have hf : H1 s1.heap.objs.size = none := I1.hok.fresh (Nat.le_refl _)
  refine ⟨.ref s1.heap.objs.size, upd H1 s1.heap.objs.size (.tup xs), I1.laid (t' := s1.toks) (fun b u e => Heap.get?_push_of_some _ e) (Nat.le_refl _) ?_, rfl, q _ hf⟩
  exact ⟨z, us, r, ⟨_, Heap.get?_push_size _ rfl, rfl, _, rfl⟩⟩
theorem pe_lst (h : PA X es t) : PE X (.List es pos) (tLst t) := by
  intro pins s σ H Q I hq
  refine wpAny_List_spliced (thn (h pos pins s σ H _ I hq) fun us s1 ⟨xs, H1, I1, r, z, q⟩ => ⟨by rw [← r.length]; exact z, ?_⟩)
  have hf : H1 s1.heap.objs.size = none := I1.hok.fresh (Nat.le_refl _)
  refine ⟨.ref s1.heap.objs.size, upd H1 s1.heap.objs.size (.lst xs), I1.laid (t' := s1.toks) (fun b u e => Heap.get?_push_of_some _ e) (Nat.le_refl _) ?_, rfl, q _ hf⟩
  exact ⟨z, us, 0, r, Heap.get?_push_size _ rfl⟩
end
abbrev Sp := List V → Hp → VK → XK → Prop
abbrev CXT := List Env → Hp → Shared → XK → Value → Shared → Prop
structure Env0 (P : Program) (w : World) (K : PySem.W.Frag) (mg : Str → Option Value) (base : Heap) (A : Around) (outer : List Env) (s : Shared) (H : Hp) : Prop where
  frames : A.frames = some outer
  mod : Mod K mg base
  bs : ∀ b o, base.get? b = some o → s.heap.get? b = some o ∧ H b = none
  bsz : base.objs.size ≤ s.heap.objs.size
  funs : s.heap.FunFrames base outer
  frf : ∀ b ∈ frs outer, H b = none
  hok : HOk P w H s.heap
  bare : AllBare s.gens
def CE (outer : List Env) (P : Program) (w : World) (H : Hp) (s : Shared) (Q : VK) (u : Value) (s' : Shared) : Prop :=
  ∃ v H', s'.os = s.os ∧ AllBare s'.gens ∧ Un (frs outer) [] H H' s.heap s'.heap ∧ HOk P w H' s'.heap ∧ RelV v u ∧ Q v H'
def CR (CX : CXT) (outer : List Env) (P : Program) (w : World) (H : Hp) (s : Shared) (Q : VK) (E : XK) (r : Result) (s' : Shared) : Prop :=
  match r with
  | .ok (.ret u) => CE outer P w H s Q u s'
  | .ok _ => False
  | .error e => CX outer H s E e s'
structure FnOk (P : Program) (w : World) (K : PySem.W.Frag) (mg : Str → Option Value) (base : Heap) (CX : CXT) (k : Nat) (f : Addr) (fd : FuncData) (ps : List Str) (sp : Sp) : Prop where
  len : ∀ vs H Q E, sp vs H Q E → vs.length = ps.length
  run : ∀ (A : Around) (outer : List Env) (s : Shared) (H : Hp) (args : Args) (us : List Value) (vs : List V) (Q : VK) (E : XK), Room k A → Env0 P w K mg base A outer s H → BindsTo s fd args (ps.zip us) → Vals vs us → sp vs H Q E →
    codeAny (model P w) A (.call (.ref f) args) (CR CX outer P w H s Q E) s
theorem FnOk.mono {P : Program} {w : World} {K : PySem.W.Frag} {mg : Str → Option Value} {base : Heap} {CX : CXT} {j k : Nat} {f : Addr} {fd : FuncData} {ps : List Str} {sp : Sp} (F : FnOk P w K mg base CX j f fd ps sp) (h : j ≤ k) :
    FnOk P w K mg base CX k f fd ps sp := ⟨F.len, fun A outer s H args us vs Q E hr => F.run A outer s H args us vs Q E (hr.mono h)⟩
theorem FnOk.imp {P : Program} {w : World} {K : PySem.W.Frag} {mg : Str → Option Value} {base : Heap} {CX : CXT} {k : Nat} {f : Addr} {fd : FuncData} {ps : List Str} {sp sp' : Sp} (F : FnOk P w K mg base CX k f fd ps sp)
    (h : ∀ vs H Q E, sp' vs H Q E → sp vs H Q E) : FnOk P w K mg base CX k f fd ps sp' :=
  ⟨fun vs H Q E q => F.len vs H Q E (h _ _ _ _ q), fun A outer s H args us vs Q E hr he hb hv hs => F.run A outer s H args us vs Q E hr he hb hv (h _ _ _ _ hs)⟩
theorem Env0.make {P : Program} {w : World} {K : PySem.W.Frag} {mg : Str → Option Value} {base : Heap} {A : Around} {outer : List Env} {s : Shared} {H : Hp} (e : Env0 P w K mg base A outer s H) (C : Addr) (us : List Value) (kw : List (Str × Value)) :
    Env0 P w K mg base (A.under (.builtin "type.__call__" ⟨.ref C :: us, kw⟩)) outer s H := ⟨by first | exact e.frames | (simpa [Around.under, Code.envs, Code.isFrame, pushEnvs] using e.frames), e.mod, e.bs, e.bsz, e.funs, e.frf, e.hok, e.bare⟩
theorem Env0.in1 {P : Program} {w : World} {K : PySem.W.Frag} {mg : Str → Option Value} {base : Heap} {A : Around} {outer : List Env} {s : Shared} {H : Hp} (e : Env0 P w K mg base A outer s H) :
    Env0 P w K mg base A.in1 outer s H := ⟨e.frames, e.mod, e.bs, e.bsz, e.funs, e.frf, e.hok, e.bare⟩
section
variable {X : Cx} {pins : List (Addr × Obj)} {σ : St} {H : Hp} {s s' : Shared}
theorem Inv.env0 (I : Inv X pins σ H s) : Env0 X.prog X.w X.K X.mg X.base X.A X.stack s H :=
  ⟨I.ok.frames, I.ok.mod, I.bs, Nat.le_trans I.ok.bsz I.sz, I.stack, I.stkFree, I.hok, I.bare⟩
theorem Inv.after {Q : VK} {u : Value} (I : Inv X pins σ H s) (h : CE X.stack X.prog X.w H s Q u s') : EP X pins σ Q u s' := by
  obtain ⟨v, H', os, bare, un, hok, r, q⟩ := h
  obtain ⟨hh, g, d, t, os'⟩ := s'
  obtain rfl : os' = s.os := os
  exact ⟨v, H', I.call (h' := hh) (g' := g) (d' := d) (t' := t) (ch := []) un hok bare (fun b z => absurd z (by simp)), r, q⟩
end
def tCall (sp : Sp) (dvs : List V) (E : XK) (t : TA) : TE := fun σ H Q => t σ H fun vs H1 => sp (vs ++ dvs) H1 Q E
def tMeth (C : Addr) (m : Str) (sp : Sp) (dvs : List V) (E : XK) (ta : TE) (t : TA) : TE := fun σ H Q => ta σ H fun x H1 => ∃ a dx fs, x = .ref a ∧ H1 a = some (.ins C dx fs) ∧ fs.lookup m = none ∧
  t σ H1 fun vs H2 => sp (x :: (vs ++ dvs)) H2 Q E
def tMake (C : Addr) (sp : Sp) (dvs : List V) (E : XK) (t : TA) : TE := fun σ H Q => t σ H fun vs H1 => ∀ x dx, H1 x = none → H1 dx = none → dx ≠ x →
  sp (.ref x :: (vs ++ dvs)) (upd (upd H1 dx (.own x)) x (.ins C dx [])) (fun v H2 => v = .non ∧ Q (.ref x) H2) E
def Binds (K : PySem.W.Frag) (fd : FuncData) (ps : List Str) (ds : List Value) : Prop :=
  ∀ (s : Shared) (us : List Value), K.In s.heap → (us ++ ds).length = ps.length → BindsTo s fd ⟨us, []⟩ (ps.zip (us ++ ds))
theorem Binds.all {K : PySem.W.Frag} {fd : FuncData} {ps : List Str} (h : ∀ us : List Value, us.length = ps.length → bindArgs fd ⟨us, []⟩ = pure (ps.zip us)) : Binds K fd ps [] := fun s us _ hl => by
  rw [List.append_nil] at hl ⊢
  exact .of_eq (h us hl)
def Passes (CX : CXT) (X : Cx) (E : XK) : Prop := ∀ (pins : List (Addr × Obj)) (σ : St) (H : Hp) (s : Shared) (e : Value) (s' : Shared), Inv X pins σ H s → CX X.stack H s E e s' → X.xe e s'
section
variable {X : Cx} {CX : CXT} {k : Nat} {f C : Addr} {fd : FuncData} {ps : List Str} {sp : Sp} {dvs : List V} {ds : List Value} {E : XK} {x m : Str} {p pos apos : Pos} {e o : Expr} {es : List Expr} {ta : TE} {t : TA}
theorem run_fn {pins : List (Addr × Obj)} {σ : St} {H : Hp} {s : Shared} {Q : VK} {us : List Value} {vs : List V} (F : FnOk X.prog X.w X.K X.mg X.base CX k f fd ps sp) (hr : Room k X.A) (hb : Binds X.K fd ps ds) (hd : Vals dvs ds) (hx : Passes CX X E)
    (I : Inv X pins σ H s) (r : Vals vs us) (h : sp (vs ++ dvs) H Q E) : wpAny (model X.prog X.w) X.A (call (.ref f) us) (EP X pins σ Q) X.xe s := by
  have r2 : Vals (vs ++ dvs) (us ++ ds) := r.append hd
  have hl : (us ++ ds).length = ps.length := by rw [← r2.length]; exact F.len _ _ _ _ h
  refine wpAny_call (codeAny_mono (F.run X.A X.stack s H ⟨us, []⟩ (us ++ ds) (vs ++ dvs) Q E hr I.env0 (hb s us I.kIn hl) r2 h) fun r s' hq => ?_)
  cases r with
  | error e => exact hx pins σ H s e s' I hq
  | ok fl =>
    cases fl with
    | ret u => exact I.after hq
    | next => exact False.elim hq
    | brk => exact False.elim hq
    | cont => exact False.elim hq
theorem pe_call (F : FnOk X.prog X.w X.K X.mg X.base CX k f fd ps sp) (hr : Room k X.A) (hg : Gl X x) (hm : X.mg x = some (.ref f)) (hk : PySem.W.keepIn X.K (.ref f) = true) (hb : Binds X.K fd ps ds) (hd : Vals dvs ds) (hx : Passes CX X E)
    (ha : PA X (e :: es) t) (hdb : (x == ("__debug__" : Str)) = false := by decide) (he : starEach (e :: es) X.env = (false, eval e X.env) :: starEach es X.env := by rfl) (hpl : (backTo pos (starEach es X.env)).any (·.1) = false := by rfl) :
    PE X (.Call (.Name x p) (e :: es) [] pos) (tCall sp dvs E t) := by
  intro pins s σ H Q I h
  refine wpAny_Call_Name_kw (ld_glob I hg hm ?_ hdb)
  refine PySem.W.callWith_K (h₀ := X.base) I.ok.mod.kin hk (thn (ha pos pins s σ H _ I h) fun us s1 ⟨vs, H1, I1, r, q⟩ => ⟨I1.kIn, ?_⟩) he hpl
  exact run_fn F hr hb hd hx I1 r q
theorem pe_call0 (F : FnOk X.prog X.w X.K X.mg X.base CX k f fd ps sp) (hr : Room k X.A) (hg : Gl X x) (hm : X.mg x = some (.ref f)) (hk : PySem.W.keepIn X.K (.ref f) = true) (hb : Binds X.K fd ps ds) (hd : Vals dvs ds) (hx : Passes CX X E)
    (hdb : (x == ("__debug__" : Str)) = false := by decide) : PE X (.Call (.Name x p) [] [] pos) (tCall sp dvs E tNil) := by
  intro pins s σ H Q I h
  refine wpAny_Call_Name_kw (ld_glob I hg hm ?_ hdb)
  exact PySem.W.callWith_K0 I.kIn hk (run_fn (us := []) F hr hb hd hx I .nil h)
theorem pe_meth {pl : Sem Bool} (he : PE X o ta) (c : Cls X.K C) (hm : Meth X.K C m f) (F : FnOk X.prog X.w X.K X.mg X.base CX k f fd ps sp) (hr : Room k X.A) (hb : Binds X.K fd ps ds) (hd : Vals dvs ds) (hx : Passes CX X E) (ha : PA X (e :: es) t)
    (hst : starEach (e :: es) X.env = (false, eval e X.env) :: starEach es X.env := by rfl) (hpl : (backTo pos (starEach es X.env)).any (·.1) = false := by rfl)
    (ht : eval (.Call (.Attribute o m apos) (e :: es) [] pos) X.env = (do
      let ov ← eval o X.env
      standAt apos.atName
      let (f, first) ← holding [ov] (getMethod ov m pl)
      callWith pos f first (backTo pos (starEach (e :: es) X.env)) (backToKw pos (keywordEach [] X.env))) := by rfl) :
    PE X (.Call (.Attribute o m apos) (e :: es) [] pos) (tMeth C m sp dvs E ta t) := by
  intro pins s σ H Q I h
  refine PySem.W.methodCall_KW (pl := pl) (thn (he pins s σ H _ I h) fun u s1 ⟨x, H1, I1, rx, a, dx, fs, ex, ea, l, q⟩ => ?_) ht
  subst ex
  obtain rfl : u = Value.ref a := rx
  refine getmeth_ok I1 ea c hm l ?_
  refine PySem.W.callWith_K (first := [.ref a]) (h₀ := X.base) I.ok.mod.kin hm.kp (thn (ha pos pins s1 σ H1 _ I1 q) fun us s2 ⟨vs, H2, I2, r, q2⟩ => ⟨I2.kIn, ?_⟩) hst hpl
  exact run_fn (us := .ref a :: us) (vs := .ref a :: vs) F hr hb hd hx I2 (.cons rfl r) q2
theorem pe_meth0 {pl : Sem Bool} (he : PE X o ta) (c : Cls X.K C) (hm : Meth X.K C m f) (F : FnOk X.prog X.w X.K X.mg X.base CX k f fd ps sp) (hr : Room k X.A) (hb : Binds X.K fd ps ds) (hd : Vals dvs ds) (hx : Passes CX X E)
    (ht : eval (.Call (.Attribute o m apos) [] [] pos) X.env = (do
      let ov ← eval o X.env
      standAt apos.atName
      let (f, first) ← holding [ov] (getMethod ov m pl)
      callWith pos f first (backTo pos (starEach [] X.env)) (backToKw pos (keywordEach [] X.env))) := by rfl) :
    PE X (.Call (.Attribute o m apos) [] [] pos) (tMeth C m sp dvs E ta tNil) := by
  intro pins s σ H Q I h
  refine PySem.W.methodCall_KW (pl := pl) (thn (he pins s σ H _ I h) fun u s1 ⟨x, H1, I1, rx, a, dx, fs, ex, ea, l, q⟩ => ?_) ht
  subst ex
  obtain rfl : u = Value.ref a := rx
  refine getmeth_ok I1 ea c hm l ?_
  exact PySem.W.callWith_K0 (first := [.ref a]) I1.kIn hm.kp (run_fn (us := [.ref a]) (vs := [.ref a]) F hr hb hd hx I1 (.cons rfl .nil) q)
structure Mk (K : PySem.W.Frag) (C f : Addr) : Prop where
  makes : PySem.W.makesIn K C = true
  init : PySem.W.findIn K (.ref C) "__init__" = some (some (.ref f))
  fn : PySem.W.isFn K (.ref f) = true
  kp : PySem.W.keepIn K (.ref C) = true
theorem run_make {pins : List (Addr × Obj)} {σ : St} {H : Hp} {s : Shared} {Q : VK} {us : List Value} {vs : List V} (M : Mk X.K C f) (F : FnOk X.prog X.w X.K X.mg X.base CX k f fd ps sp) (hr : Room (k + 1) X.A) (hb : Binds X.K fd ps ds) (hd : Vals dvs ds)
    (hx : Passes CX X E) (I : Inv X pins σ H s) (r : Vals vs us)
    (h : ∀ x dx, H x = none → H dx = none → dx ≠ x → sp (.ref x :: (vs ++ dvs)) (upd (upd H dx (.own x)) x (.ins C dx [])) (fun v H2 => v = .non ∧ Q (.ref x) H2) E) :
    wpAny (model X.prog X.w) X.A (call (.ref C) us) (EP X pins σ Q) X.xe s := by
  have hq := h (s.heap.objs.size + 1) s.heap.objs.size (I.hok.fresh (Nat.le_succ _)) (I.hok.fresh (Nat.le_refl _)) (Nat.ne_of_lt (Nat.lt_succ_self _))
  have I2 := Inv.made (C := C) I
  have r2 : Vals (V.ref (s.heap.objs.size + 1) :: (vs ++ dvs)) (Value.ref (s.heap.objs.size + 1) :: (us ++ ds)) := .cons rfl (r.append hd)
  have hl : (Value.ref (s.heap.objs.size + 1) :: us ++ ds).length = ps.length := by
    have e := r2.length
    rw [F.len _ _ _ _ hq] at e
    exact e.symm
  refine wpAny_call (make_map (f := f) I.kIn M.makes M.init (beq_iff_eq.mp M.fn) (codeAny_mono (F.run _ X.stack _ _ ⟨Value.ref (s.heap.objs.size + 1) :: us, []⟩ (Value.ref (s.heap.objs.size + 1) :: (us ++ ds)) _ _ E (hr.make C us [])
    (I2.env0.make C us []) (hb _ (Value.ref (s.heap.objs.size + 1) :: us) I2.kIn hl) r2 hq) fun r s' hq' => ?_))
  cases r with
  | error e => exact hx pins σ _ _ e s' I2 hq'
  | ok fl =>
    cases fl with
    | ret u =>
      obtain ⟨v, H', I3, rv, ev, q3⟩ := I2.after hq'
      subst ev
      exact ⟨rv, ⟨V.ref (s.heap.objs.size + 1), H', I3, rfl, q3⟩⟩
    | next => exact False.elim hq'
    | brk => exact False.elim hq'
    | cont => exact False.elim hq'
theorem pe_make (M : Mk X.K C f) (F : FnOk X.prog X.w X.K X.mg X.base CX k f fd ps sp) (hr : Room (k + 1) X.A) (hg : Gl X x) (hm : X.mg x = some (.ref C)) (hb : Binds X.K fd ps ds) (hd : Vals dvs ds) (hx : Passes CX X E)
    (ha : PA X (e :: es) t) (hdb : (x == ("__debug__" : Str)) = false := by decide) (he : starEach (e :: es) X.env = (false, eval e X.env) :: starEach es X.env := by rfl) (hpl : (backTo pos (starEach es X.env)).any (·.1) = false := by rfl) :
    PE X (.Call (.Name x p) (e :: es) [] pos) (tMake C sp dvs E t) := by
  intro pins s σ H Q I h
  refine wpAny_Call_Name_kw (ld_glob I hg hm ?_ hdb)
  refine PySem.W.callWith_K (h₀ := X.base) I.ok.mod.kin M.kp (thn (ha pos pins s σ H _ I h) fun us s1 ⟨vs, H1, I1, r, q⟩ => ⟨I1.kIn, ?_⟩) he hpl
  exact run_make M F hr hb hd hx I1 r q
theorem pe_make0 (M : Mk X.K C f) (F : FnOk X.prog X.w X.K X.mg X.base CX k f fd ps sp) (hr : Room (k + 1) X.A) (hg : Gl X x) (hm : X.mg x = some (.ref C)) (hb : Binds X.K fd ps ds) (hd : Vals dvs ds) (hx : Passes CX X E)
    (hdb : (x == ("__debug__" : Str)) = false := by decide) : PE X (.Call (.Name x p) [] [] pos) (tMake C sp dvs E tNil) := by
  intro pins s σ H Q I h
  refine wpAny_Call_Name_kw (ld_glob I hg hm ?_ hdb)
  exact PySem.W.callWith_K0 I.kIn M.kp (run_make (us := []) M F hr hb hd hx I .nil h)
end
def PK (X : Cx) (kws : List Keyword) (t : TA) : Prop :=
  ∀ (pos : Pos) (pins : List (Addr × Obj)) (s : Shared) (σ : St) (H : Hp) (Q : List V → Hp → Prop), Inv X pins σ H s → t σ H Q → wpAny (model X.prog X.w) X.A (evalAll ((backToKw pos (keywordEach kws X.env)).map (·.2))) (AP X pins σ Q) X.xe s
section
variable {X : Cx} {CX : CXT} {k : Nat} {f C : Addr} {fd : FuncData} {ps ks : List Str} {sp : Sp} {E : XK} {x m : Str} {p pos apos kpos : Pos} {e o : Expr} {es : List Expr} {kws : List Keyword} {te ta : TE} {t tk : TA} {nm : Option Str}
theorem pk_nil : PK X [] tNil := fun _ _ _ _ H Q I h => wpAny_evalAll_nil ⟨[], H, I, .nil, h⟩
theorem pk_cons (ha : PE X e te) (hr : PK X kws t) : PK X (⟨nm, e, kpos⟩ :: kws) (tCons te t) := by
  intro pos pins s σ H Q I h
  show wpAny _ _ (evalAll ((do let v ← eval e X.env; standAt pos; pure v) :: (backToKw pos (keywordEach kws X.env)).map (·.2))) _ _ s
  refine wpAny_evalAll_cons (wpAny_bind (thn (ha pins s σ H _ I h) fun u s1 ⟨x, H1, I1, r1, q1⟩ => wpAny_bind (wpAny_standAt (wpAny_pure ?_))))
  exact thn (hr pos pins s1 σ H1 _ I1 q1) fun us s2 ⟨xs, H2, I2, r2, q2⟩ => ⟨x :: xs, H2, I2, .cons r1 r2, q2⟩
structure KBinds (K : PySem.W.Frag) (fd : FuncData) (ps ks : List Str) (g : List Value → List Value → List Value) (gV : List V → List V → List V) : Prop where
  to : ∀ (s : Shared) (us ws : List Value), K.In s.heap → (g us ws).length = ps.length → BindsTo s fd ⟨us, ks.zip ws⟩ (ps.zip (g us ws))
  rel : ∀ {vs : List V} {us : List Value} {zs : List V} {ws : List Value}, Vals vs us → Vals zs ws → Vals (gV vs zs) (g us ws)
def tCallK (sp : Sp) (gV : List V → List V → List V) (E : XK) (t tk : TA) : TE := fun σ H Q => t σ H fun vs H1 => tk σ H1 fun zs H2 => sp (gV vs zs) H2 Q E
variable {g : List Value → List Value → List Value} {gV : List V → List V → List V}
theorem run_fnk {pins : List (Addr × Obj)} {σ : St} {H : Hp} {s : Shared} {Q : VK} {us ws : List Value} {vs zs : List V} (F : FnOk X.prog X.w X.K X.mg X.base CX k f fd ps sp) (hr : Room k X.A) (hb : KBinds X.K fd ps ks g gV) (hx : Passes CX X E)
    (I : Inv X pins σ H s) (r : Vals vs us) (rz : Vals zs ws) (h : sp (gV vs zs) H Q E) : wpAny (model X.prog X.w) X.A (call (.ref f) us (ks.zip ws)) (EP X pins σ Q) X.xe s := by
  have r2 := hb.rel r rz
  have hl : (g us ws).length = ps.length := by rw [← r2.length]; exact F.len _ _ _ _ h
  refine wpAny_call (codeAny_mono (F.run X.A X.stack s H ⟨us, ks.zip ws⟩ (g us ws) (gV vs zs) Q E hr I.env0 (hb.to s us ws I.kIn hl) r2 h) fun r s' hq => ?_)
  cases r with
  | error e => exact hx pins σ H s e s' I hq
  | ok fl =>
    cases fl with
    | ret u => exact I.after hq
    | next => exact False.elim hq
    | brk => exact False.elim hq
    | cont => exact False.elim hq
theorem pe_callK (F : FnOk X.prog X.w X.K X.mg X.base CX k f fd ps sp) (hr : Room k X.A) (hg : Gl X x) (hm : X.mg x = some (.ref f)) (hk : PySem.W.keepIn X.K (.ref f) = true) (hb : KBinds X.K fd ps ks g gV) (hx : Passes CX X E)
    (ha : PA X (e :: es) t) (hkw : PK X kws tk) (hall : (backToKw pos (keywordEach kws X.env)).all (·.1.isSome) = true := by rfl) (hks : (backToKw pos (keywordEach kws X.env)).filterMap (·.1) = ks := by rfl)
    (hdb : (x == ("__debug__" : Str)) = false := by decide) (he : starEach (e :: es) X.env = (false, eval e X.env) :: starEach es X.env := by rfl)
    (hpl : ((backTo pos (starEach (e :: es) X.env)).any (·.1) || (backToKw pos (keywordEach kws X.env)).any (·.1.isNone)) = false := by rfl) :
    PE X (.Call (.Name x p) (e :: es) kws pos) (tCallK sp gV E t tk) := by
  intro pins s σ H Q I h
  refine wpAny_Call_Name_kw (ld_glob I hg hm ?_ hdb)
  refine PySem.W.callWith_KW (h₀ := X.base) I.ok.mod.kin hk hall (thn (ha pos pins s σ H _ I h) fun us s1 ⟨vs, H1, I1, r, q⟩ => ?_) hpl he
  refine thn (hkw pos pins s1 σ H1 _ I1 q) fun ws s2 ⟨zs, H2, I2, rz, q2⟩ => ⟨I2.kIn, ?_⟩
  rw [hks]
  exact run_fnk F hr hb hx I2 r rz q2
end
structure FnScope (N P : List Str) (sc : Scope) : Prop where
  kind : sc.kind = .function
  co : sc.isCoroutine = false
  gen : sc.isGenerator = false
  nd : N.Nodup
  pre : N.take P.length = P
  par : ∀ x ∈ P, sc.names.lookup x = some .local ∨ sc.names.lookup x = some .cell
  nofree : ∀ y ∈ sc.names, y.2 ≠ .free
theorem bindL_out {kindOf : Str → Option NameKind} {x : Str} : ∀ {binds : List (Str × Value)} {m : Str → Option Value}, (∀ v, (x, v) ∉ binds) → bindL kindOf binds m x = m x
  | [], _, _ => rfl
  | (n, v) :: r, m, h => by
    unfold bindL
    rw [bindL_out fun w hw => h w (List.mem_cons_of_mem _ hw)]
    split
    · have : x ≠ n := by rintro rfl; exact h v List.mem_cons_self
      simp [this]
    · rfl
theorem bindC_out {kindOf : Str → Option NameKind} {x : Str} : ∀ {binds : List (Str × Value)} {m : Str → Option Value}, (∀ v, (x, v) ∉ binds) → bindC kindOf binds m x = m x
  | [], _, _ => rfl
  | (n, v) :: r, m, h => by
    unfold bindC
    rw [bindC_out fun w hw => h w (List.mem_cons_of_mem _ hw)]
    split
    · rfl
    · have : x ≠ n := by rintro rfl; exact h v List.mem_cons_self
      simp [this]
theorem bindL_get {kindOf : Str → Option NameKind} {x : Str} {v : Value} : ∀ {P : List Str} {vs : List Value} {i : Nat} {m : Str → Option Value}, P.Nodup → P[i]? = some x → vs[i]? = some v → kindOf x = some .local →
    bindL kindOf (P.zip vs) m x = some v
  | [], _, _, _, _, h, _, _ => by simp at h
  | _ :: _, [], _, _, _, _, h, _ => by simp at h
  | p :: P, w :: vs, 0, m, nd, h1, h2, hk => by
    simp at h1 h2; subst h1; subst h2
    show bindL kindOf ((p, w) :: P.zip vs) m p = _
    unfold bindL
    rw [bindL_out fun v hv => (List.nodup_cons.mp nd).1 (List.of_mem_zip hv).1, if_pos hk]
    simp
  | p :: P, w :: vs, i + 1, m, nd, h1, h2, hk => by
    show bindL kindOf ((p, w) :: P.zip vs) m x = _
    unfold bindL
    exact bindL_get (i := i) (List.nodup_cons.mp nd).2 (by simpa using h1) (by simpa using h2) hk
theorem bindC_get {kindOf : Str → Option NameKind} {x : Str} {v : Value} : ∀ {P : List Str} {vs : List Value} {i : Nat} {m : Str → Option Value}, P.Nodup → P[i]? = some x → vs[i]? = some v → kindOf x ≠ some .local →
    bindC kindOf (P.zip vs) m x = some v
  | [], _, _, _, _, h, _, _ => by simp at h
  | _ :: _, [], _, _, _, _, h, _ => by simp at h
  | p :: P, w :: vs, 0, m, nd, h1, h2, hk => by
    simp at h1 h2; subst h1; subst h2
    show bindC kindOf ((p, w) :: P.zip vs) m p = _
    unfold bindC
    rw [bindC_out fun v hv => (List.nodup_cons.mp nd).1 (List.of_mem_zip hv).1, if_neg hk]
    simp
  | p :: P, w :: vs, i + 1, m, nd, h1, h2, hk => by
    show bindC kindOf ((p, w) :: P.zip vs) m x = _
    unfold bindC
    exact bindC_get (i := i) (List.nodup_cons.mp nd).2 (by simpa using h1) (by simpa using h2) hk
def start (N : List Str) (vs : List V) : St := vs.map some ++ List.replicate (N.length - vs.length) none
def cxOf (CX : CXT) (P : Program) (w : World) (K : PySem.W.Frag) (mg : Str → Option Value) (base : Heap) (N : List Str) (qual : Str) (scope : Scope) (f : Addr) (cd : Value) (A : Around) (outer : List Env) (s : Shared) (H : Hp) (E : XK) : Cx where
  prog := P
  w := w
  K := K
  mg := mg
  base := base
  A := A.deeper (envOfC qual scope s.heap.objs.size f cd)
  N := N
  s₀ := s
  H₀ := H
  env := envOfC qual scope s.heap.objs.size f cd
  outer := outer
  stack := envOfC qual scope s.heap.objs.size f cd :: outer
  ex := []
  calm := true
  fn := fun _ => true
  pn := []
  xe := fun e s' => wpAny (model P w) (A.deeper (envOfC qual scope s.heap.objs.size f cd)) (leaving (envOfC qual scope s.heap.objs.size f cd) e) (fun _ s'' => CX outer H s E e s'') (fun e' s'' => CX outer H s E e' s'') s'
theorem cell_has {sc : Scope} {n : Nat} {x : Str} (h : sc.names.lookup x = some .cell) : ∃ c, (cellsFrom n sc.names []).lookup x = some c := by
  have q := PySem.W.cellsFrom_some sc.names n [] (.inl h)
  exact Option.isSome_iff_exists.mp q
theorem inv_start {CX : CXT} {P : Program} {w : World} {K : PySem.W.Frag} {mg : Str → Option Value} {base : Heap} {N ps : List Str} {qual : Str} {scope : Scope} {f : Addr} {cd : Value} {A : Around} {outer : List Env} {s s1 : Shared} {H : Hp} {E : XK} {us : List Value} {vs : List V}
    (S : FnScope N ps scope) (hd : A.handled = none) (e0 : Env0 P w K mg base A outer s H) (hl : vs.length = ps.length) (r : Vals vs us)
    (x : InCallC s s.heap.objs.size (bindL (envOfC qual scope s.heap.objs.size f cd).kindOf (ps.zip us) fun _ => none) (cellsFrom (s.heap.objs.size + 1) scope.names []) (bindC (envOfC qual scope s.heap.objs.size f cd).kindOf (ps.zip us) fun _ => none) s1) :
    Inv (cxOf CX P w K mg base N qual scope f cd A outer s H E) [] (start N vs) H s1 := by
  have hpl : ps.length ≤ N.length := by have := congrArg List.length S.pre; rw [List.length_take] at this; omega
  obtain ⟨h1, tk, rfl, hk⟩ := x.done
  have noA : ∀ b : Addr, b ∉ (cxOf CX P w K mg base N qual scope f cd A outer s H E).ex := fun b z => absurd (show b ∈ ([] : List Addr) from z) (by simp)
  refine ⟨⟨e0.mod, S.kind, rfl, rfl, Nat.le_refl _, fun y z c h1 h2 => ?_, fun y hy => ?_, fun y c _ h => ?_, fun _ => hd, Around.frames_deeper e0.frames, .inr ⟨rfl, rfl⟩, fun b z => absurd z (noA b), e0.bs, e0.bsz, fun b _ _ => noA b, fun b z => absurd z (noA b), e0.funs, e0.frf⟩,
    rfl, e0.bare, Un.kept hk, ⟨_, x.toInCall.ns, fun i y v h1 h2 h3 => ?_⟩, fun y c h => ⟨_, x.cell y c h⟩, e0.hok.fresh (Nat.le_refl _), fun y c h => ?_, fun p hp => absurd (show p ∈ ([] : List (Addr × Obj)) from hp) (by simp), e0.hok.kept hk, ?_⟩
  · exact name_of_addr x.apart (PySem.mem_of_lookup h1) (PySem.mem_of_lookup h2)
  · have hy : scope.names.lookup y = some .cell ∨ scope.names.lookup y = some .free := hy
    rcases hy with hy | hy
    · exact cell_has hy
    · exact absurd rfl (S.nofree _ (PySem.mem_of_lookup hy))
  · exact Nat.le_of_lt (x.above y c (PySem.mem_of_lookup h))
  · have hi : i < vs.length := by
      unfold start at h2
      by_cases hi : i < vs.length
      · exact hi
      · rw [List.getElem?_append_right (by simpa using hi)] at h2
        rw [List.getElem?_replicate] at h2
        split at h2 <;> cases h2
    have ha : vs[i]? = some v := by
      unfold start at h2
      rw [List.getElem?_append_left (by simpa using hi), List.getElem?_map] at h2
      cases e : vs[i]? with
      | none => rw [e] at h2; cases h2
      | some a => rw [e] at h2; cases h2; rfl
    obtain ⟨u, hu, rv⟩ := r.get ha
    have hp : ps[i]? = some y := by
      rw [← S.pre, List.getElem?_take_of_lt (by omega)]; exact h1
    have ndP : ps.Nodup := by rw [← S.pre]; exact S.nd.sublist (List.take_sublist _ _)
    refine ⟨u, rv, ?_⟩
    rcases S.par y (List.mem_of_getElem? hp) with k | k
    · exact .inl ⟨k, bindL_get ndP hp hu k⟩
    · obtain ⟨c, e⟩ := cell_has (n := s.heap.objs.size + 1) k
      refine .inr ⟨.inl k, c, e, ?_⟩
      have q := x.cell y c e
      rw [bindC_get ndP hp hu (by show scope.names.lookup y ≠ _; rw [k]; decide)] at q
      exact q
  · exact e0.hok.fresh (Nat.le_of_lt (x.above y c (PySem.mem_of_lookup h)))
  · unfold start
    show _ = N.length
    rw [List.length_append, List.length_map, List.length_replicate]
    omega
theorem fn_of {CX : CXT} {P : Program} {w : World} {K : PySem.W.Frag} {mg : Str → Option Value} {base : Heap} {k : Nat} {f : Addr} {name qual : Str} {params : Arguments} {body : List Stmt} {scope : Scope} {dV kV doc pm cdv ct oc : Value} {an od : Option Addr}
    {osl : Array (Option Value)} {N ps : List Str} {sp : Sp} (lk : K.lookup f = some ⟨oc, od, .func (PySem.W.fnOf name qual params body scope dV kV doc pm an cdv ct), osl⟩) (hcd : PySem.W.codeIn K cdv qual = true) (S : FnScope N ps scope)
    (len : ∀ vs H Q E, sp vs H Q E → vs.length = ps.length)
    (hbody : ∀ (A : Around) (outer : List Env) (s : Shared) (H : Hp) (vs : List V) (Q : VK) (E : XK), Room k (A.deeper (envOfC qual scope s.heap.objs.size f cdv)) → sp vs H Q E →
      ∃ t, PSs (cxOf CX P w K mg base N qual scope f cdv A outer s H E) body t ∧ t { nx := fun _ H' => Q .non H', rt := Q } (start N vs) H) :
    FnOk P w K mg base CX (k + 1) f (PySem.W.fnOf name qual params body scope dV kV doc pm an cdv ct) ps sp := by
  refine ⟨len, fun A outer s H args us vs Q E hr e0 hb r hsp => ?_⟩
  have hl := len _ _ _ _ hsp
  have KX : K.In s.heap := e0.mod.kin.keeps fun b o e => (e0.bs b o e).1
  have lim : s.heap.NoLimit := e0.mod.nolimit.keeps fun b o e => (e0.bs b o e).1
  have hkind : ∀ y ∈ ps.zip us, scope.names.lookup y.1 = some .local ∨ (scope.names.lookup y.1 = some .cell ∧ ((cellsFrom (s.heap.objs.size + 1) scope.names []).lookup y.1).isSome = true) := fun ⟨n, v⟩ hy => by
    rcases S.par n (List.of_mem_zip hy).1 with q | q
    · exact .inl q
    · exact .inr ⟨q, PySem.W.cellsFrom_some _ _ _ (.inl q)⟩
  refine codeAny_call_function hr.depth (KX _ _ lk) rfl S.co S.gen rfl (PySem.W.codeRec_of KX hcd) (hb _ _ _ _ ?_)
  refine wpAny_newFunctionEnv_cells S.kind hkind fun env he s1 x => ?_
  subst he
  refine ⟨lim.keeps x.toInCall.keep, codeAny_func ?_⟩
  obtain ⟨t, ht, hq⟩ := hbody A outer s H vs Q E (hr.deeper _) hsp
  have I : Inv (cxOf CX P w K mg base N qual scope f cdv A outer s H E) [] (start N vs) H s1 := inv_start S hr.hd e0 hl r x
  refine wpAny_mono (ht [] s1 (start N vs) H _ I hq) (fun fl s' hs => ?_) fun e s' hs => hs
  have fin : ∀ {σ' : St} {H' : Hp} {v : V} {u : Value}, Inv (cxOf CX P w K mg base N qual scope f cdv A outer s H E) [] σ' H' s' → RelV v u → Q v H' → CE outer P w H s Q u s' :=
    fun {σ' H' v u} J rv q => ⟨v, H', J.os, J.bare, J.base, J.hok, rv, q⟩
  cases fl with
  | ret u =>
    obtain ⟨v, σ', H', J, rv, q⟩ := hs
    exact fin J rv q
  | next =>
    obtain ⟨σ', H', J, q⟩ := hs
    exact fin (v := V.non) (u := Value.none) J rfl q
  | brk =>
    obtain ⟨_, _, _, q⟩ := hs
    exact False.elim q
  | cont =>
    obtain ⟨_, _, _, q⟩ := hs
    exact False.elim q
end L2
namespace L2
open PySem PySem.Spec PyProof.Rows
section
variable {X : Cx} {x : Str} {p pos : Pos} {e : Expr} {es : List Expr} {t : TA} {id T : String} {r : List V → Hp → VK → Prop}
def tCB (r : List V → Hp → VK → Prop) (t : TA) : TE := fun σ H Q => t σ H fun vs H1 => r vs H1 Q
theorem pe_callB (hc : CallR X (.builtin id) r) (hg : Gl X x) (hm : X.mg x = none) (hv : bootBuiltins x = some (.builtin id)) (ha : PA X (e :: es) t) (hn : x ≠ "__name__" := by decide) (hdb : (x == ("__debug__" : Str)) = false := by decide)
    (he : starEach (e :: es) X.env = (false, eval e X.env) :: starEach es X.env := by rfl) (hpl : (backTo pos (starEach es X.env)).any (·.1) = false := by rfl) : PE X (.Call (.Name x p) (e :: es) [] pos) (tCB r t) := by
  intro pins s σ H Q I h
  refine wpAny_Call_Name_kw (ld_blt I hg hm hv ?_ hn hdb)
  exact PyProof.Rows.callWith_builtin1 (thn (ha pos pins s σ H _ I h) fun us s1 ⟨vs, H1, I1, r1, q1⟩ => hc pins s1 σ H1 vs us Q I1 r1 q1) he hpl
theorem pe_callTy (hc : CallR X (.type T) r) (hg : Gl X x) (hm : X.mg x = none) (hv : bootBuiltins x = some (.type T)) (ha : PA X (e :: es) t) (hn : x ≠ "__name__" := by decide) (hdb : (x == ("__debug__" : Str)) = false := by decide)
    (he : starEach (e :: es) X.env = (false, eval e X.env) :: starEach es X.env := by rfl) (hpl : (backTo pos (starEach es X.env)).any (·.1) = false := by rfl) : PE X (.Call (.Name x p) (e :: es) [] pos) (tCB r t) := by
  intro pins s σ H Q I h
  refine wpAny_Call_Name_kw (ld_blt I hg hm hv ?_ hn hdb)
  exact PyProof.Rows.callWith_type1 (thn (ha pos pins s σ H _ I h) fun us s1 ⟨vs, H1, I1, r1, q1⟩ => hc pins s1 σ H1 vs us Q I1 r1 q1) he hpl
theorem pe_callTy0 (hc : CallR X (.type T) r) (hg : Gl X x) (hm : X.mg x = none) (hv : bootBuiltins x = some (.type T)) (hn : x ≠ "__name__" := by decide) (hdb : (x == ("__debug__" : Str)) = false := by decide) :
    PE X (.Call (.Name x p) [] [] pos) (tCB r tNil) := by
  intro pins s σ H Q I h
  refine wpAny_Call_Name_kw (ld_blt I hg hm hv ?_ hn hdb)
  exact PyProof.Rows.callWith_type0 (hc pins s σ H [] [] Q I .nil h)
end
end L2
namespace HT
open PySem PyProof.Rows
def lexLt : List Int → List Int → Bool
  | [], [] => false
  | [], _ :: _ => true
  | _ :: _, [] => false
  | x :: xs, y :: ys => if x = y then lexLt xs ys else decide (x < y)
theorem lexLt_cons (x y : Int) (xs ys : List Int) : lexLt (x :: xs) (y :: ys) = if x = y then lexLt xs ys else decide (x < y) := rfl
theorem lexLt_nil_nil : lexLt [] [] = false := rfl
theorem lexLt_nil_cons (y : Int) (ys : List Int) : lexLt [] (y :: ys) = true := rfl
theorem lexLt_cons_nil (x : Int) (xs : List Int) : lexLt (x :: xs) [] = false := rfl
theorem eqAt_int (A : Around) (s : Shared) (a : Int) (t : Tok) (c : Int) (u : Tok) : ∃ e, SeqAt.EqAt A s (.int a t) (.int c u) e ∧ (e = true ↔ a = c) :=
  ⟨(a == c), SeqAt.EqAt.int_int a t c u, by simp⟩
theorem rcLt_int (A : Around) (s : Shared) (a : Int) (t : Tok) (c : Int) (u : Tok) (prog : Program) (w : World) (E : Value → Shared → Prop) (Q : Value → Shared → Prop) (h : Q (.bool (decide (a < c))) s) :
    wpAny (model prog w) A (richCompare .Lt (.int a t) (.int c u)) Q E s :=
  (PyProof.Rows.lt_int h : wpAny (model prog w) A (compareOp .Lt (.int a t) (.int c u)) Q E s)
section
open PySem.SeqAt
open PySem.AutoSeq1 (wpAny_loadPart')
open PySem.MeetsSeq PySem.MeetsSeq2 PySem.MeetsSeq3
theorem tuple_lt_ints (l b : Addr) (items items2 : Array Value) (n n2 : Nat) (dd dd2 : Option Addr) (sl sl2 : Array (Option Value)) (ns ms : List Int) (hi : IntsAre items.toList ns) (hj : IntsAre items2.toList ms) :
    Meets (Builtin.«tuple.__lt__» ⟨[.ref l, .ref b], []⟩)
      (fun _ R s => s.heap.get? l = some { cls := .type "tuple", dict := dd, data := .seq items n, slots := sl } ∧ s.heap.get? b = some { cls := .type "tuple", dict := dd2, data := .seq items2 n2, slots := sl2 } ∧
        R (.ok (.ret (.bool (lexLt ns ms)))) s) :=
  .of_wp fun prog w A R s h => by
    obtain ⟨hp, g, d, tk, os⟩ := s; obtain ⟨hl, hb, h⟩ := h
    have f2 := AutoSeq1.sub_tuple_tuple
    have z1 : items.size = ns.length := by rw [← hi.length]; simp
    have z2 : items2.size = ms.length := by rw [← hj.length]; simp
    wp_walk using wpAny_loadPart' hl, wpAny_loadPart' hb, wpAny_forIn_list _ (fun rest b s' => b.1 = none ∧ s' = ⟨hp, g, d, tk, os⟩ ∧ ∃ (vs ws : List Value) (ns' ms' : List Int), rest = vs.zip ws ∧
      IntsAre vs ns' ∧ IntsAre ws ms' ∧ ns'.length + items2.size = ms'.length + items.size ∧ R (.ok (.ret (.bool (lexLt ns' ms')))) ⟨hp, g, d, tk, os⟩) _
    case turn =>
      rintro ⟨y, x⟩ rest b s' ⟨hb', rfl, vs, ws, ns', ms', hz, hvi, hwi, hlen, hR⟩
      cases hvi with
      | nil => rw [List.zip_nil_left] at hz; cases hz
      | cons a t hvi' =>
        cases hwi with
        | nil => rw [List.zip_nil_right] at hz; cases hz
        | cons c u hwi' =>
          rw [List.zip_cons_cons] at hz
          injection hz with hyx hrest
          injection hyx with hy hx
          subst hy hx
          rw [lexLt_cons] at hR
          simp only [List.length_cons] at hlen
          obtain ⟨e, he, hiff⟩ := eqAt_int A.in1 ⟨hp, g, d, tk, os⟩ a t c u
          refine wpAny_bind (he prog w _ _ ?_)
          cases e with
          | true =>
            rw [if_pos (hiff.mp rfl)] at hR
            wp_walk
            exact ⟨rfl, rfl, _, _, _, _, hrest, hvi', hwi', by omega, hR⟩
          | false =>
            rw [if_neg (fun q => absurd (hiff.mpr q) Bool.false_ne_true)] at hR
            have hri := rcLt_int A.in1 ⟨hp, g, d, tk, os⟩ a t c u prog w
            wp_walk using hri
            exact ⟨_, rfl, by simpa using hR⟩
    case fin =>
      rintro ⟨b1, b2⟩ s' ⟨hb', rfl, vs, ws, ns', ms', hz, hvi, hwi, hlen, hR⟩
      simp only at hb'
      subst hb'
      have hv : lexLt ns' ms' = decide (items.size < items2.size) := by
        cases hvi with
        | nil =>
          cases hwi with
          | nil =>
            simp only [List.length_nil] at hlen
            rw [lexLt_nil_nil]
            exact (decide_eq_false (by omega)).symm
          | cons c u hw =>
            simp only [List.length_nil, List.length_cons] at hlen
            rw [lexLt_nil_cons]
            exact (decide_eq_true (by omega)).symm
        | cons a t hv =>
          cases hwi with
          | nil =>
            simp only [List.length_nil, List.length_cons] at hlen
            rw [lexLt_cons_nil]
            exact (decide_eq_false (by omega)).symm
          | cons c u hw =>
            rw [List.zip_cons_cons] at hz
            cases hz
      rw [hv] at hR
      wp_walk
      exact ⟨_, rfl, by simpa [Builtin.Tuple.tupleCompareSizes] using hR⟩
    case h =>
      exact ⟨rfl, rfl, items.toList, items2.toList, ns, ms, rfl, hi, hj, by omega, h⟩
end
section
variable {prog : Program} {w : World} {A : Around} {E : Value → Shared → Prop} {s : Shared}
theorem lt_tupInts {l b : Addr} {items items2 : Array Value} {ns ms : List Int} {Q : Value → Shared → Prop} (hl : IsTup s.heap l items) (hb : IsTup s.heap b items2) (hi : IntsAre items.toList ns) (hj : IntsAre items2.toList ms)
    (hu : A.units < cLine) (h : Q (.bool (lexLt ns ms)) s) : wpAny (model prog w) A (compareOp .Lt (.ref l) (.ref b)) Q E s := by
  obtain ⟨⟨cls, dd, data, sl⟩, ho, hc, n, hd⟩ := id hl
  obtain ⟨⟨cls2, dd2, data2, sl2⟩, ho2, hc2, n2, hd2⟩ := id hb
  simp only at hc hd hc2 hd2
  subst hc hd hc2 hd2
  exact richCompare_meets_room (op := .Lt) ⟨_, ho, rfl⟩ ⟨_, ho2, rfl⟩ PySem.F.slot_tuple_lt PySem.F.entry_tuple_lt (PySem.F.args_tuple_lt_2 _ _) (tuple_lt_ints l b items items2 n n2 dd dd2 sl sl2 ns ms hi hj)
    ⟨ho, ho2, show Value.bool (lexLt ns ms) ≠ Value.notImplemented ∧ Q (.bool (lexLt ns ms)) s from ⟨(fun x => nomatch x), h⟩⟩ hu
theorem cat_tup {t b : Addr} {vs ws : List Value} {Q : Value → Shared → Prop} (ht : IsTup s.heap t vs.toArray) (hb : IsTup s.heap b ws.toArray) (hv : vs ≠ [])
    (h1 : ws = [] → Q (.ref t) s) (h2 : ws ≠ [] → Q (.ref s.heap.objs.size) { s with heap := s.heap.push { cls := .type "tuple", data := .seq (vs ++ ws).toArray } })
    (hsz : vs.length + ws.length ≤ sizeLine) : wpAny (model prog w) A (binaryOp .Add (.ref t) (.ref b)) Q E s := by
  obtain ⟨⟨cls, dd, data, sl⟩, ho, hc, n, hd⟩ := id ht
  obtain ⟨⟨cls2, dd2, data2, sl2⟩, ho2, hc2, n2, hd2⟩ := id hb
  simp only at hc hd hc2 hd2
  subst hc hd hc2 hd2
  have e : vs.toArray ++ ws.toArray = (vs ++ ws).toArray := by simp
  by_cases hw : ws = []
  · exact concat_meets ⟨_, ho, rfl⟩ ⟨_, ho2, rfl⟩ noFill_tuple_add seq_tuple_add PySem.F.slot_tuple_add PySem.F.entry_tuple_add (PySem.F.args_tuple_add_2 _ _)
      (tuple_addW1 t b vs.toArray ws.toArray n n2 dd dd2 sl sl2 (by simpa using hv) (by simp [hw])) ⟨ho, ho2, h1 hw⟩
  · refine concat_meets ⟨_, ho, rfl⟩ ⟨_, ho2, rfl⟩ noFill_tuple_add seq_tuple_add PySem.F.slot_tuple_add PySem.F.entry_tuple_add (PySem.F.args_tuple_add_2 _ _)
      (tuple_addW2 t b vs.toArray ws.toArray n n2 dd dd2 sl sl2 (by simpa using hv) (by simpa using hw) (by rw [List.size_toArray, List.size_toArray]; exact hsz)) ⟨ho, ho2, ?_⟩
    rw [e]
    exact h2 hw
def sIx (n d : Nat) : Option Int → Nat
  | none => d
  | some v => if v < 0 then (v + (n : Int)).toNat else min v.toNat n
theorem sIx_none (n d : Nat) : sIx n d none = d := rfl
theorem sIx_nat (n d k : Nat) : sIx n d (some (k : Int)) = min k n := by
  show (if (k : Int) < 0 then ((k : Int) + (n : Int)).toNat else min (k : Int).toNat n) = min k n
  rw [if_neg (by omega), Int.toNat_natCast]
theorem sIx_le (n d : Nat) (hd : d ≤ n) (o : Option Int) : sIx n d o ≤ n := by
  cases o with
  | none => exact hd
  | some v =>
    show (if v < 0 then (v + (n : Int)).toNat else min v.toNat n) ≤ n
    by_cases hv : v < 0
    · rw [if_pos hv]; omega
    · rw [if_neg hv]; exact Nat.min_le_right _ _
theorem clip_eq (v : Int) (n d : Nat) : (if v < 0 then max (v + (n : Int)) 0 else min v (n : Int)) = ((sIx n d (some v) : Nat) : Int) := by
  show (if v < 0 then max (v + (n : Int)) 0 else min v (n : Int)) = (((if v < 0 then (v + (n : Int)).toNat else min v.toNat n) : Nat) : Int)
  by_cases hv : v < 0
  · simp only [if_pos hv]; omega
  · simp only [if_neg hv]; omega
theorem adjust_gen (lo hi : Option Int) (n : Nat) : Builtin.Slice.sliceAdjust lo hi 1 (n : Int) = (((sIx n 0 lo : Nat) : Int), ((sIx n n hi : Nat) : Int)) := by
  have h1 : ¬ ((1 : Int) < 0) := by omega
  unfold Builtin.Slice.sliceAdjust
  simp only [h1, if_false]
  refine Prod.ext ?_ ?_
  · cases lo with
    | none => rfl
    | some v => exact clip_eq v n 0
  · cases hi with
    | none => rfl
    | some v => exact clip_eq v n n
theorem places_gen (i j : Nat) : Builtin.Slice.slicePlaces (i : Int) (j : Int) 1 = j - i := by
  unfold Builtin.Slice.slicePlaces
  have h1 : (1 : Int) > 0 := by omega
  simp only [h1, if_true, Int.ediv_one]
  split <;> omega
theorem slicePart_ {v : Value} {o : Option Int} {Q : Option Int → Shared → Prop} (p : IsPart v o) (h : Q o s) : wpAny (model prog w) A (Builtin.Slice.slicePartIndex v) Q E s := by
  cases p with
  | none => exact slicePart_none h
  | int i t => exact slicePart_int h
theorem sliceApplied_gen {sl : Addr} {vl vu : Value} {lo hi : Option Int} {n : Nat} {Q : Int × Int × Nat → Shared → Prop} (hs : s.heap.IsSliceOf sl vl vu .none) (pl : IsPart vl lo) (pu : IsPart vu hi)
    (h : Q (((sIx n 0 lo : Nat) : Int), 1, sIx n n hi - sIx n 0 lo) s) : wpAny (model prog w) A (Builtin.Slice.sliceApplied (.ref sl) (pure (n : Int))) Q E s := by
  obtain ⟨os, hos, hcs, hds⟩ := id hs
  unfold Builtin.Slice.sliceApplied Builtin.Slice.sliceFields
  refine wpAny_bind (wpAny_bind (wpAny_field hos hds (x := vl) rfl (wpAny_bind (wpAny_field hos hds (x := vu) rfl (wpAny_bind (wpAny_field hos hds (x := .none) rfl (wpAny_pure ?_)))))))
  refine wpAny_bind (slicePart_none ?_)
  show wpAny _ _ (if ((1 : Int) == 0) = true then _ else _) _ _ s
  rw [if_neg (by decide)]
  refine wpAny_bind (slicePart_ pl (wpAny_bind (slicePart_ pu (wpAny_bind (wpAny_pure ?_)))))
  show wpAny _ _ (match Builtin.Slice.sliceAdjust lo hi 1 (n : Int) with | (lo, hi) => pure (lo, (1 : Int), Builtin.Slice.slicePlaces lo hi 1)) _ _ s
  rw [adjust_gen lo hi n]
  show wpAny _ _ (pure (((sIx n 0 lo : Nat) : Int), (1 : Int), Builtin.Slice.slicePlaces ((sIx n 0 lo : Nat) : Int) ((sIx n n hi : Nat) : Int) 1)) _ _ s
  rw [places_gen]
  exact wpAny_pure h
theorem pick_gen (xs : Array Value) (i k : Nat) : ((List.range k).filterMap fun (m : Nat) => xs[((i : Int) + (m : Int) * 1).toNat]?).toArray = ((xs.toList.drop i).take k).toArray := by
  have e : (fun (m : Nat) => xs[((i : Int) + (m : Int) * 1).toNat]?) = fun m => xs[i + m]? := by
    funext m
    have : ((i : Int) + (m : Int) * 1).toNat = i + m := by omega
    rw [this]
  rw [e]
  have := pick_run xs i k
  rw [List.filterMap_map] at this
  have e2 : ((fun x => xs[x]?) ∘ fun x => i + x) = fun m => xs[i + m]? := rfl
  rw [e2] at this
  rw [this]
theorem getItem_tuple_cut {t sl : Addr} {items : Array Value} {vl vu : Value} {lo hi : Option Int} {Q : Value → Shared → Prop} (ht : IsTup s.heap t items) (hs : s.heap.IsSliceOf sl vl vu .none) (pl : IsPart vl lo) (pu : IsPart vu hi)
    (hw : ¬ (sIx items.size 0 lo = 0 ∧ sIx items.size items.size hi = items.size))
    (h : Q (.ref s.heap.objs.size) { s with heap := s.heap.push { cls := .type "tuple", data := .seq ((items.toList.drop (sIx items.size 0 lo)).take (sIx items.size items.size hi - sIx items.size 0 lo)).toArray } })
    (hsz : items.size ≤ sizeLine) : wpAny (model prog w) A (getItem (.ref t) (.ref sl)) Q E s := by
  have htake : sizeOk (.seq ((items.toList.drop (sIx items.size 0 lo)).take (sIx items.size items.size hi - sIx items.size 0 lo)).toArray) := by
    show ((items.toList.drop (sIx items.size 0 lo)).take (sIx items.size items.size hi - sIx items.size 0 lo)).toArray.size ≤ sizeLine
    rw [List.size_toArray, List.length_take, List.length_drop, Array.length_toList]
    omega
  have hj : sIx items.size items.size hi ≤ items.size := sIx_le _ _ (Nat.le_refl _) hi
  obtain ⟨os, hos, hcs, hds⟩ := id hs
  have hTs : s.TypeIs (.ref sl) "slice" := ⟨os, hos, hcs⟩
  unfold getItem
  try with_reducible refine wpAny_holding ?_
  first | refine wpAny_bind (wpAny_pure ?_) | skip
  refine wpAny_bind (wpAny_sequenceKey ht.typeIs (by decide) ?_)
  refine wpAny_bind (wpAny_callSpecial?_slot (name := Str.ofString "__getitem__") ht.typeIs PyProof.Rows.slot_tuple_getitem
    (wpAny_call_entry PyProof.Rows.slot_tuple_getitem ht.typeIs entry_tuple_getitem ?_ (args_tuple_getitem _ _)))
  show wpAny _ _ (Builtin.Tuple.tupleItemsOf (.ref t) >>= _) _ _ s
  refine wpAny_bind (tupleItemsOf_ ht ?_)
  refine wpAny_bind (wpAny_typeOf hTs ?_)
  rw [if_pos (by decide)]
  refine wpAny_bind (sliceApplied_gen hs pl pu ?_)
  have hno : ¬ ((((sIx items.size 0 lo : Nat) : Int) == 0 && (1 : Int) == 1 && (sIx items.size items.size hi - sIx items.size 0 lo) == items.size) = true) := by
    intro q
    rw [Bool.and_eq_true, Bool.and_eq_true] at q
    have q1 : ((sIx items.size 0 lo : Nat) : Int) = 0 := eq_of_beq q.1.1
    have q2 : sIx items.size items.size hi - sIx items.size 0 lo = items.size := eq_of_beq q.2
    exact hw ⟨by omega, by omega⟩
  show wpAny _ _ (if (((sIx items.size 0 lo : Nat) : Int) == 0 && (1 : Int) == 1 && (sIx items.size items.size hi - sIx items.size 0 lo) == items.size) = true then _ else _) _ _ s
  rw [if_neg hno, pick_gen]
  first
    | exact wpAny_bind (m := Builtin.Tuple.tupleExact _) (wpAny_newObj_type (wpAny_pure ⟨_, rfl, wpAny_pure h⟩) htake)
    | exact wpAny_bind (m := Builtin.Tuple.tupleExact _) (wpAny_newObj_type (wpAny_bind (wpAny_pure (wpAny_pure ⟨_, rfl, wpAny_pure h⟩))) htake)
    | exact wpAny_bind (wpAny_bind (m := Builtin.Tuple.tupleExact _) (wpAny_newObj_type (wpAny_pure (wpAny_pure ⟨_, rfl, wpAny_pure h⟩)) htake))
    | exact wpAny_bind (wpAny_bind (m := Builtin.Tuple.tupleExact _) (wpAny_newObj_type (wpAny_pure ⟨_, rfl, wpAny_pure h⟩) htake))
end
end HT
namespace L2
open PySem PySem.Spec PyProof.Rows
abbrev TO := St → Hp → (Option Int → Hp → Prop) → Prop
def PO (X : Cx) (e : Option Expr) (t : TO) : Prop :=
  ∀ (pins : List (Addr × Obj)) (s : Shared) (σ : St) (H : Hp) (Q : Option Int → Hp → Prop), Inv X pins σ H s → t σ H Q →
    wpAny (model X.prog X.w) X.A (evalPart e X.env) (fun u s' => ∃ o H', Inv X pins σ H' s' ∧ IsPart u o ∧ Q o H') X.xe s
def tNoPart : TO := fun _ H Q => Q none H
def tPart (t : TE) : TO := fun σ H Q => t σ H fun x H1 => ∃ i, x = .int i ∧ Q (some i) H1
theorem intsAre_of {ns : List Int} : ∀ {us : List Value}, Vals (ns.map V.int) us → IntsAre us ns := by
  induction ns with
  | nil => intro us r; rw [List.map_nil] at r; cases r; exact .nil
  | cons n ns ih =>
    intro us r
    rw [List.map_cons] at r
    cases r with
    | cons r1 r2 =>
      obtain ⟨t, e⟩ := r1
      subst e
      exact .cons n t (ih r2)
section
variable {X : Cx} {e : Expr} {te : TE} {lo hi : Option Expr} {tl th : TO} {pos p2 : Pos}
theorem po_none : PO X none tNoPart := by
  intro pins s σ H Q I h
  rw [evalPart_none]
  exact wpAny_pure ⟨none, H, I, .none, h⟩
theorem po_some (h : PE X e te) : PO X (some e) (tPart te) := by
  intro pins s σ H Q I hw
  rw [evalPart_some]
  refine thn (h pins s σ H _ I hw) fun u s1 ⟨x, H1, I1, r1, q1⟩ => ?_
  obtain ⟨i, rfl, q⟩ := q1
  obtain ⟨t, rfl⟩ := r1
  exact ⟨some i, H1, I1, .int i t, q⟩
def SlR (X : Cx) (r : V → Option Int → Option Int → Hp → VK → Prop) : Prop :=
  ∀ (pins : List (Addr × Obj)) (s : Shared) (σ : St) (H : Hp) (x : V) (v vl vu : Value) (lo hi : Option Int) (sl : Addr) (Q : VK), Inv X pins σ H s → RelV x v → s.heap.IsSliceOf sl vl vu .none → IsPart vl lo → IsPart vu hi → r x lo hi H Q →
    ∃ T id, typeLookup (.type T) "__getitem__" = pure (some (.builtin id)) ∧ s.TypeIs v T ∧ wpAny (model X.prog X.w) X.A (getItem v (.ref sl)) (EP X pins σ Q) X.xe s
theorem SlR.or {r r' : V → Option Int → Option Int → Hp → VK → Prop} (h : SlR X r) (h' : SlR X r') : SlR X (fun x lo hi H Q => r x lo hi H Q ∨ r' x lo hi H Q) := by
  intro pins s σ H x v vl vu lo hi sl Q I rx hs pl pu q
  rcases q with q | q
  · exact h pins s σ H x v vl vu lo hi sl Q I rx hs pl pu q
  · exact h' pins s σ H x v vl vu lo hi sl Q I rx hs pl pu q
def tSl (r : V → Option Int → Option Int → Hp → VK → Prop) (te : TE) (tl th : TO) : TE := fun σ H Q => te σ H fun x H1 => tl σ H1 fun l H2 => th σ H2 fun u H3 => r x l u H3 Q
theorem pe_slice {r : V → Option Int → Option Int → Hp → VK → Prop} (hr : SlR X r) (he : PE X e te) (hl : PO X lo tl) (hu : PO X hi th) : PE X (.Subscript e (.Slice lo hi none p2) pos) (tSl r te tl th) := by
  intro pins s σ H Q I h
  refine Subscript_ (thn (he pins s σ H _ I h) fun v s1 ⟨x, H1, I1, r1, q1⟩ => ?_)
  refine wpAny_Slice (thn (hl pins s1 σ H1 _ I1 q1) fun vl s2 ⟨l, H2, I2, pl, q2⟩ => thn (hu pins s2 σ H2 _ I2 q2) fun vu s3 ⟨u, H3, I3, pu, q3⟩ => ?_)
  rw [evalPart_none]
  refine wpAny_pure ?_
  have I4 : Inv X pins σ H3 { s3 with heap := s3.heap.push { cls := .type "slice", data := .fields #[vl, vu, .none] } } := I3.kept (t' := s3.toks) fun b ob q => Heap.get?_push_of_some _ q
  obtain ⟨T, id, hT, ht, hg⟩ := hr pins { s3 with heap := s3.heap.push { cls := .type "slice", data := .fields #[vl, vu, .none] } } σ H3 x v vl vu l u s3.heap.objs.size Q I4 r1 (Heap.IsSliceOf.new ..) pl pu q3
  show wpAny (model X.prog X.w) X.A (subscriptTail e (.Slice lo hi none p2) v (.ref s3.heap.objs.size)) (EP X pins σ Q) X.xe { s3 with heap := s3.heap.push { cls := .type "slice", data := .fields #[vl, vu, .none] } }
  exact tail_any (ops := [.ref s3.heap.objs.size, v]) ht hT hg (by with_unfolding_all rfl)
def cutV (xs : List V) (lo hi : Option Int) : List V := (xs.drop (HT.sIx xs.length 0 lo)).take (HT.sIx xs.length xs.length hi - HT.sIx xs.length 0 lo)
theorem cutV_length (xs : List V) (lo hi : Option Int) : (cutV xs lo hi).length ≤ xs.length := by
  unfold cutV
  rw [List.length_take, List.length_drop]
  omega
def rSlT (K : PySem.W.Frag) : V → Option Int → Option Int → Hp → VK → Prop := fun x lo hi H Q => ∃ a xs, x = .ref a ∧ SqT K H a xs ∧
  ¬ (HT.sIx xs.length 0 lo = 0 ∧ HT.sIx xs.length xs.length hi = xs.length) ∧ ∀ p, H p = none → Q (.ref p) (upd H p (.tup (cutV xs lo hi)))
theorem sl_tup : SlR X (rSlT X.K) := by
  intro pins s σ H x v vl vu lo hi sl Q I rx hs pl pu h
  obtain ⟨a, xs, rfl, hx, hw, q⟩ := h
  cases rx
  obtain ⟨its, r, ht, hz⟩ := I.tuple hx
  have hlen : its.toArray.size = xs.length := by rw [List.size_toArray]; exact r.length.symm
  refine ⟨"tuple", _, PyProof.Rows.slot_tuple_getitem.lookup, ht.typeIs, ?_⟩
  refine HT.getItem_tuple_cut ht hs pl pu (by rw [hlen]; exact hw) ?_ (by rw [hlen]; exact hz)
  rw [hlen]
  refine ⟨.ref s.heap.objs.size, _, I.laid (t' := s.toks) (o := .tup (cutV xs lo hi)) (fun b ob q => Heap.get?_push_of_some _ q) (Nat.le_refl _) ?_, rfl, q _ (I.hok.fresh (Nat.le_refl _))⟩
  exact ⟨Nat.le_trans (cutV_length xs lo hi) hz, _, (r.drop (HT.sIx xs.length 0 lo)).take (HT.sIx xs.length xs.length hi - HT.sIx xs.length 0 lo), IsTup.new _ _⟩
def rLtT (K : PySem.W.Frag) : R2 := fun x y H Q => ∃ a b ns ms, x = .ref a ∧ y = .ref b ∧ SqT K H a (ns.map V.int) ∧ SqT K H b (ms.map V.int) ∧ Q (.bl (HT.lexLt ns ms)) H
theorem op_ltT (hu : X.A.units < cLine) : OpR X (compareOp .Lt) (rLtT X.K) := by
  intro pins s σ H x y v u Q I rx ry h
  obtain ⟨a, b, ns, ms, rfl, rfl, ha, hb, q⟩ := h
  cases rx
  cases ry
  obtain ⟨its, r1, p1, _⟩ := I.tuple ha
  obtain ⟨its2, r2, p2, _⟩ := I.tuple hb
  have i1 : IntsAre its.toArray.toList ns := intsAre_of r1
  have i2 : IntsAre its2.toArray.toList ms := intsAre_of r2
  exact HT.lt_tupInts p1 p2 i1 i2 hu ⟨.bl (HT.lexLt ns ms), H, I, rfl, q⟩
def rCatT (K : PySem.W.Frag) : R2 := fun x y H Q => ∃ a b xs ys, x = .ref a ∧ y = .ref b ∧ SqT K H a xs ∧ SqT K H b ys ∧ xs ≠ [] ∧ xs.length + ys.length ≤ sizeLine ∧
  (ys = [] → Q (.ref a) H) ∧ (ys ≠ [] → ∀ p, H p = none → Q (.ref p) (upd H p (.tup (xs ++ ys))))
theorem Vals.nil_iff {xs : List V} {us : List Value} (r : Vals xs us) : us = [] ↔ xs = [] := by
  cases r with
  | nil => simp
  | cons _ _ => simp
theorem op_catT : OpR X (binaryOp .Add) (rCatT X.K) := by
  intro pins s σ H x y v u Q I rx ry h
  obtain ⟨a, b, xs, ys, rfl, rfl, ha, hb, hx, hz, q1, q2⟩ := h
  cases rx
  cases ry
  obtain ⟨its, r1, p1, _⟩ := I.tuple ha
  obtain ⟨its2, r2, p2, _⟩ := I.tuple hb
  refine HT.cat_tup p1 p2 (fun z => hx (r1.nil_iff.mp z)) (fun z => ⟨.ref a, H, I, rfl, q1 (r2.nil_iff.mp z)⟩) (fun z => ?_) (by rw [← r1.length, ← r2.length]; exact hz)
  refine ⟨.ref s.heap.objs.size, _, I.laid (t' := s.toks) (o := .tup (xs ++ ys)) (fun b ob q => Heap.get?_push_of_some _ q) (Nat.le_refl _) ?_, rfl, q2 (fun w => z (r2.nil_iff.mpr w)) _ (I.hok.fresh (Nat.le_refl _))⟩
  exact ⟨by rw [List.length_append]; exact hz, _, r1.append r2, IsTup.new _ _⟩
theorem call_tupleT : CallR X (.type "tuple") (fun xs H Q => ∃ a ys, xs = [.ref a] ∧ SqT X.K H a ys ∧ Q (.ref a) H) := by
  intro pins s σ H xs us Q I r h
  obtain ⟨a, ys, rfl, ha, q⟩ := h
  obtain ⟨u, rfl, ru⟩ := vals1 r
  cases ru
  obtain ⟨its, _, p1, _⟩ := I.tuple ha
  exact call_tuple_same (items := its.toArray) p1 ⟨.ref a, H, I, rfl, q⟩
end
end L2
namespace L2
open PySem PySem.Spec PyProof.Rows
def ixN (n : Nat) (i : Int) : Option Nat := if 0 ≤ i then (if i < n then some i.toNat else none) else if -(n : Int) ≤ i then some (i + n).toNat else none
def atI {α : Type} (xs : List α) (i : Int) : Option α := (ixN xs.length i).bind fun j => xs[j]?
theorem ixN_seq {n : Nat} {i : Int} {j : Nat} (h : ixN n i = some j) : seqIndex? i n = some j ∧ j < n ∧ -(n : Int) ≤ i ∧ i < n := by
  unfold ixN at h
  by_cases h0 : 0 ≤ i
  · rw [if_pos h0] at h
    by_cases h1 : i < n
    · rw [if_pos h1] at h
      have e : i.toNat = j := Option.some.inj h
      exact ⟨by rw [seqIndex_of h0 h1, e], by omega, by omega, h1⟩
    · rw [if_neg h1] at h; cases h
  · rw [if_neg h0] at h
    by_cases h1 : -(n : Int) ≤ i
    · rw [if_pos h1] at h
      have e : (i + n).toNat = j := Option.some.inj h
      exact ⟨by rw [seqIndex_neg (by omega) h1, e], by omega, h1, by omega⟩
    · rw [if_neg h1] at h; cases h
theorem atI_get {α : Type} {xs : List α} {i : Int} {v : α} (h : atI xs i = some v) : ∃ j, seqIndex? i xs.length = some j ∧ xs[j]? = some v ∧ j < xs.length ∧ -(xs.length : Int) ≤ i ∧ i < xs.length := by
  unfold atI at h
  cases e : ixN xs.length i with
  | none => rw [e] at h; cases h
  | some j =>
    rw [e] at h
    obtain ⟨h1, h2, h3, h4⟩ := ixN_seq e
    exact ⟨j, h1, h, h2, h3, h4⟩
theorem atI_nat {α : Type} {xs : List α} {j : Nat} {v : α} (h : xs[j]? = some v) : atI xs (j : Int) = some v := by
  have hj : j < xs.length := (List.getElem?_eq_some_iff.mp h).1
  have e : ixN xs.length (j : Int) = some j := by
    unfold ixN
    rw [if_pos (by omega), if_pos (by omega)]; simp
  unfold atI; rw [e]; exact h
theorem atI_last {α : Type} (xs : List α) (v : α) : atI (xs ++ [v]) (-1) = some v := by
  have hl : (xs ++ [v]).length = xs.length + 1 := by simp
  have e : ixN (xs ++ [v]).length (-1) = some xs.length := by
    unfold ixN
    rw [hl, if_neg (by decide), if_pos (by omega)]
    congr 1
    omega
  unfold atI
  rw [e]
  show (xs ++ [v])[xs.length]? = some v
  simp
def PlainIx (b : Expr) : Prop := ∀ o i, subscripted b false o i = operate [o, i] (getItem o i)
def IxR (X : Cx) (r : R2) : Prop :=
  ∀ (value slice : Expr) (pins : List (Addr × Obj)) (s : Shared) (σ : St) (H : Hp) (x y : V) (v u : Value) (Q : VK), Inv X pins σ H s → RelV x v → RelV y u → r x y H Q →
    subscripted slice false v u = operate [v, u] (getItem v u) → wpAny (model X.prog X.w) X.A (subscriptTail value slice v u) (EP X pins σ Q) X.xe s
def MtR (X : Cx) (id : String) (r : V → List V → Hp → VK → Prop) : Prop :=
  ∀ (pins : List (Addr × Obj)) (s : Shared) (σ : St) (H : Hp) (x : V) (xs : List V) (v : Value) (us : List Value) (Q : VK), Inv X pins σ H s → RelV x v → Vals xs us → r x xs H Q →
    wpAny (model X.prog X.w) X.A (call (.builtin id) (v :: us)) (EP X pins σ Q) X.xe s
section
variable {X : Cx} {a b : Expr} {ta tb : TE} {pos : Pos}
theorem IxR.or {r r' : R2} (h : IxR X r) (h' : IxR X r') : IxR X (fun x y H Q => r x y H Q ∨ r' x y H Q) := by
  intro value slice pins s σ H x y v u Q I rx ry q hs
  rcases q with q | q
  · exact h value slice pins s σ H x y v u Q I rx ry q hs
  · exact h' value slice pins s σ H x y v u Q I rx ry q hs
theorem MtR.or {id : String} {r r' : V → List V → Hp → VK → Prop} (h : MtR X id r) (h' : MtR X id r') : MtR X id (fun x xs H Q => r x xs H Q ∨ r' x xs H Q) := by
  intro pins s σ H x xs v us Q I rx rs q
  rcases q with q | q
  · exact h pins s σ H x xs v us Q I rx rs q
  · exact h' pins s σ H x xs v us Q I rx rs q
theorem pe_ix {r : R2} (hr : IxR X r) (ha : PE X a ta) (hb : PE X b tb) (hs : PlainIx b) : PE X (.Subscript a b pos) (tOp r ta tb) := by
  intro pins s σ H Q I h
  exact Subscript_ (binT ha hb I h fun v u s2 x y H2 I2 rx ry q => hr a b pins s2 σ H2 x y v u Q I2 rx ry q (hs _ _))
def rIxL (K : PySem.W.Frag) : R2 := fun x y H Q => ∃ p xs i v, x = .ref p ∧ y = .int i ∧ SqL K H p xs ∧ atI xs i = some v ∧ Q v H
def rIxT (K : PySem.W.Frag) : R2 := fun x y H Q => ∃ p xs i v, x = .ref p ∧ y = .int i ∧ SqT K H p xs ∧ atI xs i = some v ∧ Q v H
def rIxS : R2 := fun x y H Q => ∃ z i c, x = .str z ∧ y = .int i ∧ z.length ≤ sizeLine ∧ atI z.cps.toList i = some c ∧ Q (.str ⟨#[c]⟩) H
theorem ix_list : IxR X (rIxL X.K) := by
  intro value slice pins s σ H x y v u Q I rx ry h hs
  obtain ⟨p, xs, i, z, rfl, rfl, hq, he, q⟩ := h
  cases rx
  obtain ⟨t, rfl⟩ := ry
  obtain ⟨its, r, pl, hz⟩ := I.list hq
  obtain ⟨j, h1, h2, h3, h4, h5⟩ := atI_get he
  obtain ⟨w, ew, rw'⟩ := r.get h2
  have hl := r.length
  have hn := line63
  have fin : EP X pins σ Q w s := ⟨z, H, I, rw', q⟩
  by_cases h0 : 0 ≤ i
  · have hj : i.toNat = j := by
      rw [seqIndex_of h0 h5] at h1
      exact Option.some.inj h1
    exact item_listR pl.isList h0 (by omega) (by rw [hj]; simpa using ew) fin hs
  · have hj : (i + (its.toArray.size : Int)).toNat = j := by
      rw [seqIndex_neg (by omega) h4] at h1
      rw [List.size_toArray, ← hl]
      exact Option.some.inj h1
    exact subscriptTail_builtinR (x := w) pl.isList.typeIs slot_list_getitem.lookup
      (wpAny_getItem_list_neg (Q := fun r s' => r = w ∧ EP X pins σ Q r s') pl.isList (by omega) (by rw [List.size_toArray] <;> omega) (by omega) (by rw [hj]; simpa using ew) ⟨rfl, fin⟩) hs
theorem ix_tup : IxR X (rIxT X.K) := by
  intro value slice pins s σ H x y v u Q I rx ry h hs
  obtain ⟨p, xs, i, z, rfl, rfl, hq, he, q⟩ := h
  cases rx
  obtain ⟨t, rfl⟩ := ry
  obtain ⟨its, r, pl, hz⟩ := I.tuple hq
  obtain ⟨j, h1, h2, h3, h4, h5⟩ := atI_get he
  obtain ⟨w, ew, rw'⟩ := r.get h2
  have hl := r.length
  have hn := line63
  have fin : EP X pins σ Q w s := ⟨z, H, I, rw', q⟩
  exact subscriptTail_builtinR (x := w) pl.typeIs slot_tuple_getitem.lookup
    (getItem_tuple (j := j) (Q := fun r s' => r = w ∧ EP X pins σ Q r s') pl (by omega) (by omega) (by rw [List.size_toArray, ← hl]; exact h1) (by simpa using ew) ⟨rfl, fin⟩) hs
theorem ix_str : IxR X rIxS := by
  intro value slice pins s σ H x y v u Q I rx ry h hs
  obtain ⟨z, i, c, rfl, rfl, hz, he, q⟩ := h
  obtain ⟨t, rfl⟩ := rx
  obtain ⟨t', rfl⟩ := ry
  obtain ⟨j, h1, h2, h3, h4, h5⟩ := atI_get he
  have hl : z.cps.toList.length = z.length := by simp [Str.length]
  rw [hl] at h1 h4 h5
  have hn := line63
  exact tail_any (typeIs_str s z t) slot_str_getitem.lookup (getItem_str (c := c) (by
    have e1 : decide (i < -(2 ^ 63 : Int)) = false := decide_eq_false (by omega)
    have e2 : decide (i ≥ 2 ^ 63) = false := decide_eq_false (by omega)
    rw [e1, e2, Bool.or_false]) (by rw [h1]; simpa using h2) ⟨.str ⟨#[c]⟩, H, I.tok _, ⟨_, rfl⟩, q⟩) hs
def rIx (K : PySem.W.Frag) : R2 := fun x y H Q => rIxL K x y H Q ∨ rIxT K x y H Q ∨ rIxS x y H Q
theorem ix_seq : IxR X (rIx X.K) := ix_list.or (ix_tup.or ix_str)
theorem mapSeq_set (its : List Value) (n j : Nat) (u : Value) : Obj.mapSeq (·.setIfInBounds j u) { cls := .type "list", data := .seq its.toArray n } = { cls := .type "list", data := .seq (its.set j u).toArray n } := by
  simp [Obj.mapSeq]
theorem Inv.lst {pins : List (Addr × Obj)} {σ : St} {H : Hp} {s : Shared} {p : Addr} {xs : List V} (I : Inv X pins σ H s) (h : H p = some (.lst xs)) :
    ∃ (its : List Value) (n : Nat), Vals xs its ∧ s.heap.get? p = some { cls := .type "list", data := .seq its.toArray n } ∧ xs.length ≤ sizeLine := by
  obtain ⟨z, its, n, r, e⟩ := I.hok p _ h
  exact ⟨its, n, r, e, z⟩
theorem Inv.lstUpd {pins : List (Addr × Obj)} {σ : St} {H : Hp} {s : Shared} {p : Addr} {xs ys : List V} {its its' : List Value} {n n' : Nat} {f : Obj → Obj} (I : Inv X pins σ H s) (h : H p = some (.lst xs))
    (ho : s.heap.get? p = some { cls := .type "list", data := .seq its.toArray n }) (hf : f { cls := .type "list", data := .seq its.toArray n } = { cls := .type "list", data := .seq its'.toArray n' }) (r : Vals ys its') (hz : ys.length ≤ sizeLine) (t : Nat) :
    Inv X pins σ (upd H p (.lst ys)) { s with heap := s.heap.update p f, toks := t } := by
  have e : (s.heap.update p f).get? p = some { cls := .type "list", data := .seq its'.toArray n' } := by
    rw [Heap.get?_update_self f ho (by rw [hf] <;> rfl), hf]
  refine I.write (x := p) (e := p) (by rw [h]; trivial) (.inl rfl) (fun b u hb q => (Heap.get?_update_other _ _ (Ne.symm hb)).trans q) ⟨_, e⟩ ?_
  exact ⟨hz, its', n', r, e⟩
def rSetL : V → V → V → Hp → (Hp → Prop) → Prop := fun o i v H Q => ∃ p xs k j, o = .ref p ∧ i = .int k ∧ H p = some (.lst xs) ∧ ixN xs.length k = some j ∧ Q (upd H p (.lst (xs.set j v)))
theorem set_list : PSet X rSetL := by
  intro pins s σ H o i v ov iv u Q I ro ri rv h
  obtain ⟨p, xs, k, j, rfl, rfl, hp, hj, q⟩ := h
  cases ro
  obtain ⟨t, rfl⟩ := ri
  obtain ⟨its, n, r, ho, hz⟩ := I.lst hp
  obtain ⟨h1, h2, h3, h4⟩ := ixN_seq hj
  have hl := r.length
  have hn := line63
  have I' : Inv X pins σ (upd H p (.lst (xs.set j v))) { s with heap := s.heap.update p (Obj.mapSeq (·.setIfInBounds j u)) } :=
    I.lstUpd hp ho (mapSeq_set its n j u) (r.set rv j) (by rw [List.length_set]; exact hz) s.toks
  by_cases h0 : 0 ≤ k
  · have hk : k.toNat = j := by
      rw [seqIndex_of h0 h4] at h1
      exact Option.some.inj h1
    exact PySem.W.ki_setAt ho h0 (by omega) (by rw [List.size_toArray, ← hl]; exact h4) (by rw [hk]; exact ⟨_, I', q⟩)
  · have hk : (k + (its.toArray.size : Int)).toNat = j := by
      rw [seqIndex_neg (by omega) h3] at h1
      rw [List.size_toArray, ← hl]
      exact Option.some.inj h1
    exact PySem.W.ki_setBack ho (by omega) (by rw [List.size_toArray, ← hl]; exact h3) (by omega) (by rw [hk]; exact ⟨_, I', q⟩)
theorem slice_bounds (lo hi : Option Int) (n : Nat) : (sliceBounds lo hi none n).1 = ((HT.sIx n 0 lo : Nat) : Int) ∧ (sliceBounds lo hi none n).2.1 = ((HT.sIx n n hi : Nat) : Int) ∧ (sliceBounds lo hi none n).2.2 = 1 := by
  refine ⟨?_, ?_, rfl⟩
  · cases lo with
    | none => simp [sliceBounds, HT.sIx]
    | some i =>
      simp only [sliceBounds, HT.sIx, Option.getD_none, show (1 : Int) > 0 by decide, if_true]
      by_cases h : i < 0
      · simp only [h, if_true] <;> omega
      · simp only [h, if_false] <;> omega
  · cases hi with
    | none => simp [sliceBounds, HT.sIx]
    | some i =>
      simp only [sliceBounds, HT.sIx, Option.getD_none, show (1 : Int) > 0 by decide, if_true]
      by_cases h : i < 0
      · simp only [h, if_true] <;> omega
      · simp only [h, if_false] <;> omega
theorem slicePick_cut (its : List Value) (lo hi : Option Int) : slicePick its.toArray lo hi none = ((its.drop (HT.sIx its.length 0 lo)).take (HT.sIx its.length its.length hi - HT.sIx its.length 0 lo)).toArray := by
  obtain ⟨h1, h2, h3⟩ := slice_bounds lo hi its.toArray.size
  unfold slicePick
  rw [h1, h2, h3]
  simp only [sliceRange_one, pick_run, List.size_toArray] <;> rfl
def rSlL (K : PySem.W.Frag) : V → Option Int → Option Int → Hp → VK → Prop := fun x lo hi H Q => ∃ a xs, x = .ref a ∧ SqL K H a xs ∧ ∀ p, H p = none → Q (.ref p) (upd H p (.lst (cutV xs lo hi)))
theorem sl_list : SlR X (rSlL X.K) := by
  intro pins s σ H x v vl vu lo hi sl Q I rx hs pl pu h
  obtain ⟨a, xs, rfl, hx, q⟩ := h
  cases rx
  obtain ⟨its, r, ht, hz⟩ := I.list hx
  have hlen := r.length
  refine ⟨"list", _, slot_list_getitem.lookup, ht.isList.typeIs, ?_⟩
  refine wpAny_getItem_list_slice ht.isList hs pl pu .none (by simp) ?_ (by rw [List.size_toArray] <;> omega)
  rw [slicePick_cut, ← hlen]
  refine ⟨.ref s.heap.objs.size, _, I.laid (t' := s.toks) (o := .lst (cutV xs lo hi)) (fun b ob q => Heap.get?_push_of_some _ q) (Nat.le_refl _) ?_, rfl, q _ (I.hok.fresh (Nat.le_refl _))⟩
  exact ⟨Nat.le_trans (cutV_length xs lo hi) hz, _, 0, (r.drop (HT.sIx xs.length 0 lo)).take (HT.sIx xs.length xs.length hi - HT.sIx xs.length 0 lo), Heap.get?_push_size _ rfl⟩
def flatV : V → Bool
  | .non => true
  | .bl _ => true
  | .int _ => true
  | .str _ => true
  | _ => false
def eqV : V → V → Bool
  | .non, .non => true
  | .bl a, .bl b => a == b
  | .bl a, .int b => (if a then 1 else 0) == b
  | .int a, .bl b => a == (if b then 1 else 0)
  | .int a, .int b => a == b
  | .str a, .str b => a == b
  | _, _ => false
theorem eqAt_V {A : Around} {s : Shared} {y x : V} {u v : Value} (ry : RelV y u) (rx : RelV x v) (fy : flatV y = true) (fx : flatV x = true) : SeqAt.EqAt A s u v (eqV y x) := by
  cases y with
  | non =>
    cases ry
    cases x with
    | non => cases rx; exact SeqAt.EqAt.same _
    | bl b => cases rx; exact SeqAt.EqAt.none_bool b
    | int b => obtain ⟨t, rfl⟩ := rx; exact SeqAt.EqAt.none_int b t
    | str b => obtain ⟨t, rfl⟩ := rx; exact SeqAt.EqAt.none_str b t
    | _ => exact absurd (show false = true from fx) Bool.false_ne_true
  | bl a =>
    cases ry
    cases x with
    | non => cases rx; exact SeqAt.EqAt.bool_none a
    | bl b => cases rx; exact SeqAt.EqAt.bool_bool a b
    | int b => obtain ⟨t, rfl⟩ := rx; exact SeqAt.EqAt.bool_int a b t
    | str b => obtain ⟨t, rfl⟩ := rx; exact SeqAt.EqAt.bool_str a b t
    | _ => exact absurd (show false = true from fx) Bool.false_ne_true
  | int a =>
    obtain ⟨t', rfl⟩ := ry
    cases x with
    | non => cases rx; exact SeqAt.EqAt.int_none a t'
    | bl b => cases rx; exact SeqAt.EqAt.int_bool a t' b
    | int b => obtain ⟨t, rfl⟩ := rx; exact SeqAt.EqAt.int_int a t' b t
    | str b => obtain ⟨t, rfl⟩ := rx; exact SeqAt.EqAt.int_str a t' b t
    | _ => exact absurd (show false = true from fx) Bool.false_ne_true
  | str a =>
    obtain ⟨t', rfl⟩ := ry
    cases x with
    | non => cases rx; exact SeqAt.EqAt.str_none a t'
    | bl b => cases rx; exact SeqAt.EqAt.str_bool a t' b
    | int b => obtain ⟨t, rfl⟩ := rx; exact SeqAt.EqAt.str_int a t' b t
    | str b => obtain ⟨t, rfl⟩ := rx; exact SeqAt.EqAt.str_str a t' b t
    | _ => exact absurd (show false = true from fx) Bool.false_ne_true
  | _ => exact absurd (show false = true from fy) Bool.false_ne_true
def eqU (x : V) (u : Value) : Bool := match u with
  | .none => eqV .non x
  | .bool b => eqV (.bl b) x
  | .int i _ => eqV (.int i) x
  | .str z _ => eqV (.str z) x
  | _ => false
theorem eqU_of {x y : V} {u : Value} (r : RelV y u) (f : flatV y = true) : eqU x u = eqV y x := by
  cases y with
  | non => cases r; rfl
  | bl b => cases r; rfl
  | int i => obtain ⟨t, rfl⟩ := r; rfl
  | str z => obtain ⟨t, rfl⟩ := r; rfl
  | _ => exact absurd (show false = true from f) Bool.false_ne_true
theorem any_eqU {x : V} : ∀ {xs : List V} {us : List Value}, Vals xs us → xs.all flatV = true → us.any (eqU x) = xs.any fun y => eqV y x
  | _, _, .nil, _ => rfl
  | y :: xs, u :: us, .cons r t, f => by
    rw [List.all_cons, Bool.and_eq_true] at f
    rw [List.any_cons, List.any_cons, eqU_of r f.1, any_eqU t f.2]
theorem mem_eqAt {A : Around} {s : Shared} {x : V} {v : Value} (rx : RelV x v) (fx : flatV x = true) : ∀ {xs : List V} {us : List Value}, Vals xs us → xs.all flatV = true → ∀ u ∈ us, SeqAt.EqAt A s u v (eqU x u)
  | _, _, .nil, _ => fun u hu => by cases hu
  | y :: xs, u :: us, .cons r t, f => fun u' hu => by
    rw [List.all_cons, Bool.and_eq_true] at f
    rcases List.mem_cons.mp hu with rfl | hu
    · rw [eqU_of r f.1]; exact eqAt_V r rx f.1 fx
    · exact mem_eqAt rx fx t f.2 u' hu
def inV (x : V) (xs : List V) : Bool := xs.any fun y => eqV y x
def rIn (K : PySem.W.Frag) (neg : Bool) : R2 := fun x y H Q => ∃ p xs, y = .ref p ∧ (SqL K H p xs ∨ SqT K H p xs) ∧ flatV x = true ∧ xs.all flatV = true ∧ Q (.bl (if neg then !inV x xs else inV x xs)) H
theorem op_in_seq : OpR X (compareOp .In) (rIn X.K false) := by
  intro pins s σ H x y v u Q I rx ry h
  obtain ⟨p, xs, rfl, hq, fx, fs, q⟩ := h
  cases ry
  rcases hq with hq | hq
  · obtain ⟨its, r, pl, hz⟩ := I.list hq
    refine SeqAt.in_listAt (eqU x) pl.isList (fun w hw => mem_eqAt rx fx r fs w (by simpa using hw)) ⟨.bl _, H, I, rfl, ?_⟩
    rw [show its.toArray.any (eqU x) = its.any (eqU x) by simp, any_eqU r fs]
    exact q
  · obtain ⟨its, r, pl, hz⟩ := I.tuple hq
    refine SeqAt.in_tupleAt (eqU x) pl (fun w hw => mem_eqAt rx fx r fs w (by simpa using hw)) ⟨.bl _, H, I, rfl, ?_⟩
    rw [show its.toArray.any (eqU x) = its.any (eqU x) by simp, any_eqU r fs]
    exact q
theorem op_notIn_seq : OpR X (compareOp .NotIn) (rIn X.K true) := by
  intro pins s σ H x y v u Q I rx ry h
  obtain ⟨p, xs, rfl, hq, fx, fs, q⟩ := h
  cases ry
  rcases hq with hq | hq
  · obtain ⟨its, r, pl, hz⟩ := I.list hq
    refine SeqAt.notIn_listAt (eqU x) pl.isList (fun w hw => mem_eqAt rx fx r fs w (by simpa using hw)) ⟨.bl _, H, I, rfl, ?_⟩
    rw [show its.toArray.any (eqU x) = its.any (eqU x) by simp, any_eqU r fs]
    exact q
  · obtain ⟨its, r, pl, hz⟩ := I.tuple hq
    refine SeqAt.notIn_tupleAt (eqU x) pl (fun w hw => mem_eqAt rx fx r fs w (by simpa using hw)) ⟨.bl _, H, I, rfl, ?_⟩
    rw [show its.toArray.any (eqU x) = its.any (eqU x) by simp, any_eqU r fs]
    exact q
theorem op_notIn_str : OpR X (compareOp .NotIn) (fun x y H Q => ∃ i j, x = .str i ∧ y = .str j ∧ Q (.bl (!(!(Builtin.Str.occurrences j i 0 j.length 1).isEmpty))) H) := by
  intro pins s σ H x y v u Q I rx ry h
  obtain ⟨i, j, rfl, rfl, q⟩ := h
  obtain ⟨t, rfl⟩ := rx
  obtain ⟨t', rfl⟩ := ry
  exact notIn_str ⟨.bl _, H, I, rfl, q⟩
theorem call_len_seq : CallR X (.builtin "len") (fun xs H Q => ∃ p ys, xs = [.ref p] ∧ (SqL X.K H p ys ∨ SqT X.K H p ys) ∧ Q (.int ys.length) H) := by
  intro pins s σ H xs us Q I r h
  obtain ⟨p, ys, rfl, hq, q⟩ := h
  obtain ⟨u, rfl, rx⟩ := vals1 r
  cases rx
  have hn := line63
  rcases hq with hq | hq
  · obtain ⟨its, r', pl, hz⟩ := I.list hq
    have hlen := r'.length
    exact Calls.call_len_list pl.isList (by simp only [List.size_toArray] <;> omega) ⟨.int ys.length, H, I.tok _, ⟨s.toks + 1, by rw [List.size_toArray, hlen]⟩, q⟩
  · obtain ⟨its, r', pl, hz⟩ := I.tuple hq
    have hlen := r'.length
    exact len_tuple pl (by simp only [List.size_toArray] <;> omega) ⟨.int ys.length, H, I.tok _, ⟨s.toks + 1, by rw [List.size_toArray, hlen]⟩, q⟩
theorem call_len_str : CallR X (.builtin "len") (fun xs H Q => ∃ z, xs = [.str z] ∧ z.length ≤ sizeLine ∧ Q (.int z.length) H) := by
  intro pins s σ H xs us Q I r h
  obtain ⟨z, rfl, hz, q⟩ := h
  obtain ⟨u, rfl, t, rfl⟩ := vals1 r
  have hn := line63
  exact len_str (by omega) ⟨.int z.length, H, I.tok _, ⟨_, rfl⟩, q⟩
theorem CallR.or {f : Value} {r r' : List V → Hp → VK → Prop} (h : CallR X f r) (h' : CallR X f r') : CallR X f (fun xs H Q => r xs H Q ∨ r' xs H Q) := by
  intro pins s σ H xs us Q I rs q
  rcases q with q | q
  · exact h pins s σ H xs us Q I rs q
  · exact h' pins s σ H xs us Q I rs q
theorem call_list_of : CallR X (.type "list") (fun xs H Q => ∃ p ys, xs = [.ref p] ∧ (SqL X.K H p ys ∨ SqT X.K H p ys) ∧ ∀ l, H l = none → Q (.ref l) (upd H l (.lst ys))) := by
  intro pins s σ H xs us Q I r h
  obtain ⟨p, ys, rfl, hq, q⟩ := h
  obtain ⟨u, rfl, rx⟩ := vals1 r
  cases rx
  have fin : ∀ (its : List Value), Vals ys its → ys.length ≤ sizeLine → ∀ (h' : Heap) (c' : Nat), (∀ b o', s.heap.get? b = some o' → h'.get? b = some o') →
      h'.get? s.heap.objs.size = some { cls := .type "list", dict := none, data := .seq its.toArray c', slots := #[] } → EP X pins σ Q (.ref s.heap.objs.size) { s with heap := h' } := fun its r' hz h' c' kp e =>
    ⟨.ref s.heap.objs.size, _, I.laid (t' := s.toks) kp (Nat.le_refl _) (show ObjOk X.prog X.w _ h' _ (.lst ys) from ⟨hz, its, c', r', e⟩), rfl, q _ (I.hok.fresh (Nat.le_refl _))⟩
  rcases hq with hq | hq
  · obtain ⟨its, r', pl, hz⟩ := I.list hq
    have hlen := r'.length
    obtain ⟨o, ho, hc, n, hd⟩ := pl.isList
    exact call_list_seq p (.inl rfl) ho hc hd (fun h' c' kp e => fin its r' hz h' c' kp e) (by simp only [List.size_toArray] <;> omega)
  · obtain ⟨its, r', pl, hz⟩ := I.tuple hq
    have hlen := r'.length
    obtain ⟨o, ho, hc, n, hd⟩ := pl
    exact call_list_seq p (.inr rfl) ho hc hd (fun h' c' kp e => fin its r' hz h' c' kp e) (by simp only [List.size_toArray] <;> omega)
theorem call_tuple_of : CallR X (.type "tuple") (fun xs H Q => ∃ p ys, xs = [.ref p] ∧ ((SqL X.K H p ys ∧ ∀ l, H l = none → Q (.ref l) (upd H l (.tup ys))) ∨ (SqT X.K H p ys ∧ Q (.ref p) H))) := by
  intro pins s σ H xs us Q I r h
  obtain ⟨p, ys, rfl, h⟩ := h
  obtain ⟨u, rfl, rx⟩ := vals1 r
  cases rx
  rcases h with ⟨hq, q⟩ | ⟨hq, q⟩
  · obtain ⟨its, r', pl, hz⟩ := I.list hq
    have hlen := r'.length
    refine call_tuple_list pl.isList (fun h' kp => ?_) (by simp only [List.size_toArray] <;> omega)
    have I1 : Inv X pins σ H { s with heap := h' } := I.kept (t' := s.toks) kp
    have I2 : Inv X pins σ (upd H h'.objs.size (.tup ys)) { s with heap := h'.push { cls := .type "tuple", data := .seq its.toArray } } :=
      I1.laid (t' := s.toks) (fun b o e => Heap.get?_push_of_some _ e) (Nat.le_refl _) (show ObjOk X.prog X.w _ _ _ (.tup ys) from ⟨hz, its, r', IsTup.new _ _⟩)
    exact ⟨.ref h'.objs.size, _, I2, rfl, q _ (I1.hok.fresh (Nat.le_refl _))⟩
  · obtain ⟨its, r', pl, hz⟩ := I.tuple hq
    exact call_tuple_same pl ⟨.ref p, H, I, rfl, q⟩
def tyV (K : PySem.W.Frag) (T : String) (x : V) (H : Hp) : Prop := match x with
  | .str _ => T = "str"
  | .int _ => T = "int"
  | .ref p => (T = "list" ∧ ∃ xs, SqL K H p xs) ∨ (T = "tuple" ∧ ∃ o, K.lookup p = some o ∧ o.cls = .type "tuple" ∧ o.dict = none) ∨
      (T = "dict" ∧ ((∃ kvs, H p = some (.dK kvs)) ∨ ∃ kvs, H p = some (.dT kvs))) ∨ (T = "set" ∧ ∃ S n, H p = some (.set S n))
  | _ => False
theorem tyV_is {pins : List (Addr × Obj)} {σ : St} {H : Hp} {s : Shared} {T : String} {x : V} {v : Value} (I : Inv X pins σ H s) (r : RelV x v) (ty : tyV X.K T x H) :
    s.TypeIs v T ∧ ∀ a, v = .ref a → ∃ ob, s.heap.get? a = some ob ∧ ob.dict = none := by
  cases x with
  | str z =>
    obtain ⟨t, rfl⟩ := r
    cases (show T = "str" from ty)
    exact ⟨typeIs_str s z t, fun _ e => nomatch e⟩
  | int i =>
    obtain ⟨t, rfl⟩ := r
    cases (show T = "int" from ty)
    exact ⟨typeIs_int s i t, fun _ e => nomatch e⟩
  | ref p =>
    cases r
    rcases ty with ⟨rfl, xs, hq⟩ | ⟨rfl, o, hk, hc, hd⟩ | ⟨rfl, hk⟩ | ⟨rfl, S, n, hk⟩
    · obtain ⟨its, _, pl, _⟩ := I.list hq
      refine ⟨pl.isList.typeIs, fun a e => ?_⟩
      cases e
      obtain ⟨o, n, e, c, hd, _⟩ := pl
      exact ⟨o, e, hd⟩
    · refine ⟨⟨o, I.kIn p o hk, hc⟩, fun a e => ?_⟩
      cases e
      exact ⟨o, I.kIn _ o hk, hd⟩
    · have z : ∃ o, s.heap.get? p = some o ∧ o.ExactDict := by
        rcases hk with ⟨kvs, hk⟩ | ⟨kvs, hk⟩
        · obtain ⟨_, _, _, _, o, _, _, e, ex, _⟩ := I.hok p _ hk
          exact ⟨o, e, ex⟩
        · obtain ⟨_, _, _, _, o, _, _, e, ex, _⟩ := I.hok p _ hk
          exact ⟨o, e, ex⟩
      obtain ⟨o, e, ex⟩ := z
      refine ⟨⟨o, e, ex.1⟩, fun a e2 => ?_⟩
      cases e2
      exact ⟨o, e, ex.2.1⟩
    · obtain ⟨o, _, _, _, e, ex, _⟩ := I.hok p _ hk
      refine ⟨⟨o, e, ex.1⟩, fun a e2 => ?_⟩
      cases e2
      exact ⟨o, e, ex.2.1⟩
  | _ => exact False.elim ty
def tBM0 (K : PySem.W.Frag) (T : String) (r : V → List V → Hp → VK → Prop) (to : TE) : TE := fun σ H Q => to σ H fun x H1 => tyV K T x H1 ∧ r x [] H1 Q
def tBM (K : PySem.W.Frag) (T : String) (r : V → List V → Hp → VK → Prop) (to : TE) (t : TA) : TE := fun σ H Q => to σ H fun x H1 => tyV K T x H1 ∧ t σ H1 fun xs H2 => r x xs H2 Q
variable {o e : Expr} {es : List Expr} {to : TE} {t : TA} {name : Str} {apos cpos : Pos} {T id : String} {r : V → List V → Hp → VK → Prop}
theorem pe_bm0 (pa : PlainAttrs T) (slot : Slot T name id) (hty : typeOf (.builtin id) = pure (.type "method_descriptor")) (hm : MtR X id r) (ho : PE X o to)
    (hbase : attributeBase o name X.env (eval o X.env) = eval o X.env := by rfl) (hline : (apos.endLine == cpos.line) = true := by rfl) : PE X (.Call (.Attribute o name apos) [] [] cpos) (tBM0 X.K T r to) := by
  intro pins s σ H Q I h
  refine wpAny_Call_method0_late hbase hline (thn (ho pins s σ H _ I h) fun v s1 ⟨x, H1, I1, r1, ty, q1⟩ => ?_)
  obtain ⟨h1, h2⟩ := tyV_is I1 r1 ty
  exact ⟨T, id, pa, slot, hty, h1, h2, Calls.callWith_builtin rfl (PySem.evalArgs_none (hm pins s1 σ H1 x [] v [] Q I1 r1 .nil q1))⟩
theorem pe_bm (pa : PlainAttrs T) (slot : Slot T name id) (hty : typeOf (.builtin id) = pure (.type "method_descriptor")) (hm : MtR X id r) (ho : PE X o to) (ha : PA X (e :: es) t)
    (hbase : attributeBase o name X.env (eval o X.env) = eval o X.env := by rfl)
    (hfew : ((backTo cpos (starEach (e :: es) X.env)).all (fun x => !x.1) && (backToKw cpos (keywordEach [] X.env)).all (fun x => x.1.isSome)
      && decide ((e :: es).length + ([] : List Keyword).length + (if ([] : List Keyword).isEmpty then 0 else 1) < 30)) = true := by rfl)
    (hline : (apos.endLine == cpos.line) = true := by rfl) (hs : starEach (e :: es) X.env = (false, eval e X.env) :: starEach es X.env := by rfl) (hplain : (backTo cpos (starEach es X.env)).any (·.1) = false := by rfl) :
    PE X (.Call (.Attribute o name apos) (e :: es) [] cpos) (tBM X.K T r to t) := by
  intro pins s σ H Q I h
  refine wpAny_Call_method_late hbase hfew hline rfl (thn (ho pins s σ H _ I h) fun v s1 ⟨x, H1, I1, r1, ty, q1⟩ => ?_)
  obtain ⟨h1, h2⟩ := tyV_is I1 r1 ty
  refine ⟨T, id, pa, slot, hty, h1, h2, ?_⟩
  have hA := ha cpos pins s1 σ H1 _ I1 q1
  rw [hs] at hA ⊢
  refine Calls.callWith_builtin (by show (false || (backTo cpos (starEach es X.env)).any (·.1)) = false; rw [hplain] <;> rfl) (Calls.evalArgs_plain ?_)
  exact thn hA fun us s2 ⟨vs, H2, I2, r2, q2⟩ => hm pins s2 σ H2 x vs v us Q I2 r1 r2 q2
/- xs.append(e), list.index on a module's tuple .. are MtR facts of 06m -/
end
end L2
namespace L2
open PySem PySem.Spec PyProof.Rows
def MtM (X : Cx) (id : String) (r : V → List V → Hp → VK → Prop) : Prop :=
  ∀ (pins : List (Addr × Obj)) (s : Shared) (σ : St) (H : Hp) (x : V) (xs : List V) (v : Value) (us : List Value) (Q : VK), Inv X pins σ H s → RelV x v → Vals xs us → r x xs H Q →
    wpAny (model X.prog X.w) X.A (call (.builtin id) (v :: us)) (EP X pins σ Q) X.xe s
theorem Vals.one : ∀ {x : V} {us : List Value}, Vals [x] us → ∃ u, us = [u] ∧ RelV x u
  | _, _, .cons r .nil => ⟨_, rfl, r⟩
theorem Vals.two : ∀ {x y : V} {us : List Value}, Vals [x, y] us → ∃ u v, us = [u, v] ∧ RelV x u ∧ RelV y v
  | _, _, _, .cons r (.cons q .nil) => ⟨_, _, rfl, r, q⟩
theorem Vals.zero : ∀ {us : List Value}, Vals [] us → us = []
  | _, .nil => rfl
theorem Vals.dropLast {xs : List V} {us : List Value} (h : Vals xs us) : Vals xs.dropLast us.dropLast := by
  induction h with
  | nil => exact .nil
  | cons r t ih =>
    cases t with
    | nil => exact .nil
    | cons q t' => exact .cons r ih
theorem Vals.eraseIdx : ∀ {xs : List V} {us : List Value} (i : Nat), Vals xs us → Vals (xs.eraseIdx i) (us.eraseIdx i)
  | _, _, _, .nil => .nil
  | _, _, 0, .cons _ t => t
  | _, _, i + 1, .cons r t => .cons r (Vals.eraseIdx i t)
theorem Vals.reverse {xs : List V} {us : List Value} (h : Vals xs us) : Vals xs.reverse us.reverse := by
  induction h with
  | nil => exact .nil
  | cons r t ih => rw [List.reverse_cons, List.reverse_cons]; exact Vals.append ih (.cons r .nil)
theorem Vals.rep {xs : List V} {us : List Value} (h : Vals xs us) : ∀ k : Nat, Vals (List.replicate k xs).flatten (List.replicate k us).flatten
  | 0 => .nil
  | k + 1 => by
    rw [List.replicate_succ, List.replicate_succ, List.flatten_cons, List.flatten_cons]
    exact Vals.append h (Vals.rep h k)
theorem erase_last {α : Type} (l : List α) : l.eraseIdx (l.length - 1) = l.dropLast := by
  induction l with
  | nil => rfl
  | cons a r ih =>
    cases r with
    | nil => rfl
    | cons b r =>
      have e : (a :: b :: r).length - 1 = ((b :: r).length - 1) + 1 := by
        have h1 : (a :: b :: r).length = r.length + 2 := rfl
        have h2 : (b :: r).length = r.length + 1 := rfl
        omega
      rw [e, List.eraseIdx_cons_succ, ih]
      all_goals rfl
theorem len_erase {α : Type} : ∀ (l : List α) (i : Nat), (l.eraseIdx i).length ≤ l.length
  | [], _ => Nat.le_refl _
  | _ :: _, 0 => Nat.le_succ _
  | _ :: r, i + 1 => Nat.succ_le_succ (len_erase r i)
theorem foldl_rep (its : List Value) : ∀ (k : Nat) (acc : List Value),
    List.foldl (fun x1 x2 => x1 ++ x2) acc.toArray (List.replicate k its.toArray) = (acc ++ (List.replicate k its).flatten).toArray
  | 0, acc => by simp
  | k + 1, acc => by
    have e : acc.toArray ++ its.toArray = (acc ++ its).toArray := by simp
    have e2 : (acc ++ its) ++ (List.replicate k its).flatten = acc ++ (List.replicate (k + 1) its).flatten := by
      rw [List.replicate_succ, List.flatten_cons, List.append_assoc]
    rw [← e2, ← foldl_rep its k (acc ++ its), ← e, List.replicate_succ, List.foldl_cons]
section
variable {X : Cx} {pins : List (Addr × Obj)} {σ : St} {H : Hp} {s : Shared} {l b : Addr} {xs ys zs : List V}
theorem Inv.lset {its its' : List Value} {n : Nat} {f : Array Value → Array Value} {t' : Nat} (I : Inv X pins σ H s) (hH : H l = some (.lst xs))
    (e : s.heap.get? l = some { cls := .type "list", data := .seq its.toArray n }) (hf : f its.toArray = its'.toArray) (hv : Vals ys its') (hz : ys.length ≤ sizeLine) :
    Inv X pins σ (upd H l (.lst ys)) { s with heap := s.heap.update l (Obj.mapSeq f), toks := t' } := by
  have q := PySem.IsL.update e f
  rw [hf] at q
  refine I.write (x := l) (e := l) (by rw [hH]; exact trivial) (.inl rfl) (fun b' u hb hu => (Heap.get?_update_other s.heap (Obj.mapSeq f) (Ne.symm hb)).trans hu) ⟨_, q⟩ ?_
  exact ⟨hz, its', _, hv, q⟩
theorem Inv.lnew {its : List Value} {t' : Nat} (I : Inv X pins σ H s) (hv : Vals ys its) (hz : ys.length ≤ sizeLine) :
    Inv X pins σ (upd H s.heap.objs.size (.lst ys)) { s with heap := s.heap.push { cls := .type "list", data := .seq its.toArray }, toks := t' } :=
  I.laid (fun _ _ q => Heap.get?_push_of_some _ q) (Nat.le_refl _) ⟨hz, its, 0, hv, Heap.get?_push_size _ rfl⟩
theorem Inv.fresh (I : Inv X pins σ H s) : H s.heap.objs.size = none := I.hok.fresh (Nat.le_refl _)
theorem Inv.lstM (I : Inv X pins σ H s) (hH : H l = some (.lst xs)) : xs.length ≤ sizeLine ∧ ∃ (its : List Value) (n : Nat), Vals xs its ∧ xs.length = its.length ∧ s.heap.get? l = some { cls := .type "list", data := .seq its.toArray n } := by
  obtain ⟨z, its, n, r, e⟩ := I.hok l _ hH
  exact ⟨z, its, n, r, r.length, e⟩
theorem notLongL {n : Nat} (h : n ≤ sizeLine) : Builtin.List.listTooLong n = false := by
  unfold Builtin.List.listTooLong
  exact decide_eq_false (by omega)
end
section
variable {X : Cx}
def rAppend : V → List V → Hp → VK → Prop := fun x vs H Q => ∃ l xs y, x = .ref l ∧ vs = [y] ∧ H l = some (.lst xs) ∧ xs.length < sizeLine ∧ Q .non (upd H l (.lst (xs ++ [y])))
theorem mt_append : MtM X "list.append" rAppend := by
  intro pins s σ H x vs v us Q I rx rv h
  obtain ⟨l, xs, y, rfl, rfl, hH, hz, q⟩ := h
  cases rx
  obtain ⟨u, rfl, ru⟩ := rv.one
  obtain ⟨z, its, n, r, hl, e⟩ := I.lstM hH
  refine call_meets F.slot_list_append ⟨_, e, rfl⟩ F.entry_list_append (F.args_list_append_2 _ _) (PySem.list_append l its.toArray n u (by rw [List.size_toArray]; omega)) ⟨e, ?_⟩
  refine ⟨.non, _, I.lset (its' := its ++ [u]) hH e (by simp) (r.append (.cons ru .nil)) ?_, rfl, q⟩
  rw [List.length_append, List.length_singleton]
  omega
def rExtend : V → List V → Hp → VK → Prop := fun x vs H Q => ∃ l b xs zs, x = .ref l ∧ vs = [.ref b] ∧ H l = some (.lst xs) ∧ H b = some (.lst zs) ∧ xs.length + zs.length ≤ sizeLine ∧ Q .non (upd H l (.lst (xs ++ zs)))
theorem mt_extend : MtM X "list.extend" rExtend := by
  intro pins s σ H x vs v us Q I rx rv h
  obtain ⟨l, b, xs, zs, rfl, rfl, hH, hB, hz, q⟩ := h
  cases rx
  obtain ⟨u, rfl, ru⟩ := rv.one
  cases ru
  obtain ⟨z, its, n, r, hl, e⟩ := I.lstM hH
  obtain ⟨z2, its2, n2, r2, hl2, e2⟩ := I.lstM hB
  have hsz : its.toArray.size + its2.toArray.size ≤ sizeLine := by rw [List.size_toArray, List.size_toArray]; omega
  have hlong : ¬ (!its.toArray.isEmpty && Builtin.List.listTooLong (its.toArray.size + its2.toArray.size)) = true := by
    rw [notLongL hsz, Bool.and_false]
    exact Bool.false_ne_true
  refine call_meets F.slot_list_extend ⟨_, e, rfl⟩ F.entry_list_extend (F.args_list_extend_2 _ _)
    (AutoSeq1.list_extend_list_list_0 l its.toArray n b its2.toArray n2 hlong (by rw [List.size_toArray]; omega) (by omega)) ⟨e, e2, ?_⟩
  refine ⟨.non, _, I.lset (its' := its ++ its2) hH e (by simp) (r.append r2) ?_, rfl, q⟩
  rw [List.length_append]
  omega
def rPop : V → List V → Hp → VK → Prop := fun x vs H Q => ∃ l xs y, x = .ref l ∧ vs = [] ∧ H l = some (.lst xs) ∧ xs[xs.length - 1]? = some y ∧ Q y (upd H l (.lst xs.dropLast))
theorem mt_pop : MtM X "list.pop" rPop := by
  intro pins s σ H x vs v us Q I rx rv h
  obtain ⟨l, xs, y, rfl, rfl, hH, hy, q⟩ := h
  cases rx
  have hus := rv.zero
  subst hus
  obtain ⟨z, its, n, r, hl, e⟩ := I.lstM hH
  obtain ⟨u, hu, ru⟩ := r.get hy
  have hy' : its.toArray[its.toArray.size - 1]? = some u := by
    show its.toArray[its.length - 1]? = some u
    rw [← Array.getElem?_toList, ← hl]
    exact hu
  refine call_meets F.slot_list_pop ⟨_, e, rfl⟩ F.entry_list_pop (F.args_list_pop_1 _) (MeetsSeq.list_pop_last l its.toArray n u hy' (by rw [List.size_toArray]; omega)) ⟨e, ?_⟩
  refine ⟨y, _, I.lset (its' := its.dropLast) hH e ?_ r.dropLast ?_, ru, q⟩
  · show its.toArray.eraseIdxIfInBounds (its.toArray.size - 1) = its.dropLast.toArray
    rw [List.size_toArray, List.eraseIdxIfInBounds_toArray, erase_last]
  · rw [List.length_dropLast]
    omega
def rPopAt : V → List V → Hp → VK → Prop := fun x vs H Q => ∃ l xs i k y, x = .ref l ∧ vs = [.int i] ∧ H l = some (.lst xs) ∧ -(2 ^ 63) ≤ i ∧ i < 2 ^ 63 ∧ seqIndex? i xs.length = some k ∧ xs[k]? = some y ∧ Q y (upd H l (.lst (xs.eraseIdx k)))
theorem mt_popAt : MtM X "list.pop" rPopAt := by
  intro pins s σ H x vs v us Q I rx rv h
  obtain ⟨l, xs, i, k, y, rfl, rfl, hH, h1, h2, hk, hy, q⟩ := h
  cases rx
  obtain ⟨u, rfl, ru⟩ := rv.one
  obtain ⟨t, rfl⟩ := ru
  obtain ⟨z, its, n, r, hl, e⟩ := I.lstM hH
  obtain ⟨w, hw, rw'⟩ := r.get hy
  refine call_meets F.slot_list_pop ⟨_, e, rfl⟩ F.entry_list_pop (F.args_list_pop_2 _ _)
    (MeetsSeq.list_pop_at l its.toArray n i t k w (fitsIndex_both h1 h2) (by rw [List.size_toArray, ← hl]; exact hk) (by rw [← Array.getElem?_toList]; exact hw) (by rw [List.size_toArray]; omega)) ⟨e, ?_⟩
  refine ⟨y, _, I.lset (its' := its.eraseIdx k) hH e ?_ (r.eraseIdx k) ?_, rw', q⟩
  · show its.toArray.eraseIdxIfInBounds k = (its.eraseIdx k).toArray
    rw [List.eraseIdxIfInBounds_toArray]
  · have := len_erase xs k
    omega
def rReverse : V → List V → Hp → VK → Prop := fun x vs H Q => ∃ l xs, x = .ref l ∧ vs = [] ∧ H l = some (.lst xs) ∧ Q .non (upd H l (.lst xs.reverse))
theorem mt_reverse : MtM X "list.reverse" rReverse := by
  intro pins s σ H x vs v us Q I rx rv h
  obtain ⟨l, xs, rfl, rfl, hH, q⟩ := h
  cases rx
  have hus := rv.zero
  subst hus
  obtain ⟨z, its, n, r, hl, e⟩ := I.lstM hH
  refine call_meets F.slot_list_reverse ⟨_, e, rfl⟩ F.entry_list_reverse (F.args_list_reverse_1 _) (AutoSeq1.list_reverse_list_0 l its.toArray n (by rw [List.size_toArray]; omega)) ⟨e, ?_⟩
  refine ⟨.non, _, I.lset (its' := its.reverse) hH e (by simp) r.reverse ?_, rfl, q⟩
  rw [List.length_reverse]
  omega
def rClear : V → List V → Hp → VK → Prop := fun x vs H Q => ∃ l xs, x = .ref l ∧ vs = [] ∧ H l = some (.lst xs) ∧ Q .non (upd H l (.lst []))
theorem mt_clear : MtM X "list.clear" rClear := by
  intro pins s σ H x vs v us Q I rx rv h
  obtain ⟨l, xs, rfl, rfl, hH, q⟩ := h
  cases rx
  have hus := rv.zero
  subst hus
  obtain ⟨z, its, n, r, hl, e⟩ := I.lstM hH
  refine call_meets F.slot_list_clear ⟨_, e, rfl⟩ F.entry_list_clear (F.args_list_clear_1 _) (AutoSeq1.list_clear_list_0 l its.toArray n (by rw [List.size_toArray]; omega)) ⟨e, ?_⟩
  exact ⟨.non, _, I.lset (its' := []) (ys := []) hH e rfl .nil (Nat.zero_le _), rfl, q⟩
def rCat : R2 := fun x y H Q => ∃ l b xs zs, x = .ref l ∧ y = .ref b ∧ H l = some (.lst xs) ∧ H b = some (.lst zs) ∧ xs.length + zs.length ≤ sizeLine ∧ ∀ p, H p = none → Q (.ref p) (upd H p (.lst (xs ++ zs)))
theorem op_cat : OpR X (binaryOp .Add) rCat := by
  intro pins s σ H x y v u Q I rx ry h
  obtain ⟨l, b, xs, zs, rfl, rfl, hH, hB, hz, q⟩ := h
  cases rx
  cases ry
  obtain ⟨z, its, n, r, hl, e⟩ := I.lstM hH
  obtain ⟨z2, its2, n2, r2, hl2, e2⟩ := I.lstM hB
  refine PySem.P.add_list e e2 ?_ (by rw [List.size_toArray, List.size_toArray]; omega)
  have ea : its.toArray ++ its2.toArray = (its ++ its2).toArray := by simp
  rw [ea]
  exact ⟨.ref _, _, I.lnew (t' := s.toks) (r.append r2) (by rw [List.length_append]; omega), rfl, q _ I.fresh⟩
def rRep : R2 := fun x y H Q => ∃ l k xs, x = .ref l ∧ y = .int k ∧ H l = some (.lst xs) ∧ -(2 ^ 63) ≤ k ∧ k < 2 ^ 63 ∧ xs.length * k.toNat ≤ sizeLine ∧
  ∀ p, H p = none → Q (.ref p) (upd H p (.lst (List.replicate k.toNat xs).flatten))
theorem len_rep {α : Type} (xs : List α) (k : Nat) : (List.replicate k xs).flatten.length = k * xs.length := by
  induction k with
  | zero => simp
  | succ k ih => rw [List.replicate_succ, List.flatten_cons, List.length_append, ih, Nat.succ_mul, Nat.add_comm]
theorem op_rep : OpR X (binaryOp .Mult) rRep := by
  intro pins s σ H x y v u Q I rx ry h
  obtain ⟨l, k, xs, rfl, rfl, hH, h1, h2, hz, q⟩ := h
  cases rx
  obtain ⟨t, rfl⟩ := ry
  obtain ⟨z, its, n, r, hl, e⟩ := I.lstM hH
  have hlen : its.toArray.size * k.toNat ≤ sizeLine := by rw [List.size_toArray, ← hl]; exact hz
  have hcap : ¬ its.toArray.size * k.toNat > (2 ^ 63 - 1) / 8 := by
    have : (sizeLine : Nat) ≤ (2 ^ 63 - 1) / 8 := by decide
    omega
  have hfit : ¬ (!Builtin.List.listFitsIndex k) = true := by
    rw [fitsIndex_both h1 h2]
    exact Bool.false_ne_true
  have hlong : ¬ Builtin.List.listTooLong (its.toArray.size * k.toNat) = true := by
    rw [notLongL hlen]
    exact Bool.false_ne_true
  have hnew : List.foldl (fun x1 x2 => x1 ++ x2) #[] (List.replicate (if its.toArray.isEmpty = true then 0 else k.toNat) its.toArray) = (List.replicate k.toNat its).flatten.toArray := by
    have f0 : ∀ m : Nat, List.foldl (fun x1 x2 => x1 ++ x2) #[] (List.replicate m its.toArray) = (List.replicate m its).flatten.toArray := fun m => by
      have := foldl_rep its m []
      rw [List.nil_append] at this
      exact this
    rw [f0]
    cases its with
    | nil => simp
    | cons a r' => rw [if_neg (by simp)]
  refine wpAny_binaryOp_repeat_ref (T := "list") (U := "int") (by decide) ⟨_, e, rfl⟩ (fun s' => typeIs_int s' k t) noFill_list_mul F.fills_int_mul F.slot_int_rmul repeat_list F.slot_int_index.lookup
    (call_meets F.slot_int_rmul (typeIs_int s k t) F.entry_int_rmul (F.args_int_rmul_2 _ _) (int___rmul___int_list k t l its.toArray n)
      ⟨e, rfl, ⟨_, e, rfl⟩, call_meets F.slot_list_mul ⟨_, e, rfl⟩ F.entry_list_mul (F.args_list_mul_2 _ _) (AutoListH.list___mul___list_int_3 l its.toArray n k t hfit hcap hlong) ⟨e, ?_⟩⟩)
  rw [hnew]
  exact ⟨.ref _, _, I.lnew (t' := s.toks) (r.rep k.toNat) (by rw [len_rep, Nat.mul_comm]; exact hz), rfl, q _ I.fresh⟩
theorem del_list {pins : List (Addr × Obj)} {s : Shared} {σ : St} {H : Hp} {l : Addr} {xs : List V} {i : Int} {t : Tok} {k : Nat} {Q : Unit → Shared → Prop} (I : Inv X pins σ H s) (hH : H l = some (.lst xs))
    (h1 : -(2 ^ 63) ≤ i) (h2 : i < 2 ^ 63) (hk : seqIndex? i xs.length = some k) (h : ∀ s', Inv X pins σ (upd H l (.lst (xs.eraseIdx k))) s' → Q () s') :
    wpAny (model X.prog X.w) X.A (delItem (.ref l) (.int i t)) Q X.xe s := by
  obtain ⟨z, its, n, r, hl, e⟩ := I.lstM hH
  refine PySem.P.delItem_list (k := k) e (fitsIndex_both h1 h2) (by rw [List.size_toArray, ← hl]; exact hk) (h _ ?_) (by rw [List.size_toArray]; omega)
  refine I.lset (its' := its.eraseIdx k) (t' := s.toks) hH e ?_ (r.eraseIdx k) ?_
  · show its.toArray.eraseIdxIfInBounds k = (its.eraseIdx k).toArray
    rw [List.eraseIdxIfInBounds_toArray]
  · have := len_erase xs k
    omega
end
section
variable {prog : Program} {w : World} {A : Around} {E : Value → Shared → Prop} {s : Shared}
theorem splice_eq (its its2 : List Value) (a c : Nat) : its.toArray.extract 0 a ++ its2.toArray ++ its.toArray.extract c its.toArray.size = (its.take a ++ its2 ++ its.drop c).toArray := by
  apply Array.toList_inj.mp
  first
    | (simp
       exact List.take_of_length_le (by simp))
    | simp [List.take_of_length_le]
    | simp
theorem bounds_run {a c n : Nat} (hac : a ≤ c) (hc : c ≤ n) : sliceBounds (some (a : Int)) (some (c : Int)) none n = ((a : Int), (c : Int), 1) := by
  simp only [sliceBounds, Option.getD_none]
  have h1 : ¬ ((a : Int) < 0) := by omega
  have h2 : ¬ ((c : Int) < 0) := by omega
  simp only [h1, h2, if_false, show (1 : Int) > 0 by decide, if_true]
  congr 1
  · omega
  · congr 1; omega
set_option maxRecDepth 100000 in
theorem setItem_slice {l b sl : Addr} {items new : Array Value} {n n2 : Nat} {vl vu : Value} {a c : Nat} {Q : Unit → Shared → Prop}
    (e : s.heap.get? l = some { cls := .type "list", data := .seq items n }) (e2 : s.heap.get? b = some { cls := .type "list", data := .seq new n2 }) (hne : l ≠ b)
    (hs : s.heap.IsSliceOf sl vl vu .none) (pl : IsPart vl (some (a : Int))) (pu : IsPart vu (some (c : Int))) (hac : a ≤ c) (hc : c ≤ items.size)
    (hsz : items.size + new.size ≤ sizeLine) (h : Q () { s with heap := s.heap.update l (Obj.mapSeq fun xs => xs.extract 0 a ++ new ++ xs.extract c xs.size) }) :
    wpAny (model prog w) A (setItem (.ref l) (.ref sl) (.ref b)) Q E s := by
  have hl : s.heap.IsList l items := PySem.IsL.isList e
  have hb : s.heap.IsList b new := PySem.IsL.isList e2
  obtain ⟨os, hos, hcs, hds⟩ := id hs
  have hTs : s.TypeIs (.ref sl) "slice" := ⟨os, hos, hcs⟩
  have hstep : ¬ ((rawPart none == rawInt 0) = true) := Bool.false_ne_true
  have hsame : Builtin.List.listSameRef (.ref l) (.ref b) = false := by
    unfold Builtin.List.listSameRef
    exact beq_eq_false_iff_ne.mpr hne
  have hmax : (max (a : Int) (c : Int)).toNat = c := by omega
  have hz' : ((fun xs : Array Value => xs.extract 0 a ++ new ++ xs.extract c xs.size) items).size ≤ sizeLine + 1 := by
    simp only [Array.size_append, Array.size_extract]
    omega
  unfold setItem
  try with_reducible refine wpAny_holding ?_
  first | refine wpAny_bind (wpAny_pure ?_) | skip
  refine wpAny_bind (wpAny_sequenceKey hl.typeIs (by decide) ?_)
  refine wpAny_bind (wpAny_callSpecial?_slot (name := Str.ofString "__setitem__") hl.typeIs slot_list_setitem
    (wpAny_call_entry slot_list_setitem hl.typeIs entry_list_setitem ?_ (args_list_setitem _ _ _)))
  show wpAny _ _ (Builtin.List.listSubscript? (.ref sl) >>= _) _ _ s
  refine wpAny_bind ?_
  unfold Builtin.List.listSubscript?
  refine wpAny_bind (wpAny_specialOf hTs slice_no_index ?_)
  simp only [Option.isNone_none, if_true]
  refine wpAny_pure ?_
  show wpAny _ _ (typeOf (.ref sl) >>= _) _ _ s
  refine wpAny_bind (wpAny_typeOf hTs ?_)
  first
    | rw [if_neg (by decide)]
    | refine PySem.W.KFB.if_not (by decide) ?_
  rw [listSliceParts_eq]
  refine wpAny_bind (wpAny_bind (wpAny_field hos hds (x := .none) rfl (wpAny_bind (wpAny_listPart .none ?_))))
  rw [if_neg hstep]
  refine wpAny_bind (wpAny_field hos hds (x := vl) rfl (wpAny_bind (wpAny_listPart pl ?_)))
  refine wpAny_bind (wpAny_field hos hds (x := vu) rfl (wpAny_bind (wpAny_listPart pu (wpAny_pure ?_))))
  first
    | simp only [hsame, Bool.false_eq_true, if_false]
    | refine PySem.W.KFB.if_not hsame ?_
    | (dsimp only
       rw [if_neg (by rw [hsame]; exact Bool.false_ne_true)])
  refine wpAny_bind (m := Builtin.List.listAllItems (.ref b) "must assign iterable to extended slice") ?_
  unfold Builtin.List.listAllItems
  refine wpAny_bind (wpAny_typeOf hb.typeIs ?_)
  first
    | refine PySem.W.KFB.if_so (by decide) ?_
    | rw [if_pos (by decide)]
    | simp only [beq_self_eq_true, Bool.true_or, if_true]
  unfold Builtin.List.listItems
  refine wpAny_bind (wpAny_seqItems e2 rfl (wpAny_pure ?_))
  refine wpAny_bind (wpAny_bind (wpAny_seqItems e rfl (wpAny_pure ?_)))
  refine wpAny_bind (wpAny_of_eq ((sliceIndices_raw (some (a : Int)) (some (c : Int)) none items.size (by simp)).trans (congrArg (pure : Int × Int × Int → Sem (Int × Int × Int)) (bounds_run hac hc))) ?_)
  show wpAny _ _ (if ((1 : Int) == 1) = true then _ else _) _ _ s
  rw [if_pos (by decide)]
  refine wpAny_bind (wpAny_rule ?_)
  first
    | simp only [notLongL hsz, Bool.false_eq_true, if_false]
    | refine PySem.W.KFB.if_not (notLongL hsz) ?_
  first | refine wpAny_bind (wpAny_pure ?_) | skip
  show wpAny _ _ (updateSeq l (fun xs => xs.extract 0 ((a : Int)).toNat ++ new ++ xs.extract (max (a : Int) (c : Int)).toNat xs.size) >>= _) _ _ s
  rw [hmax, Int.toNat_natCast]
  refine wpAny_bind (wpAny_updateSeq (hz := Nat.le_trans (Nat.le_add_right _ _) hsz) (_hz' := hz') e rfl ?_)
  refine wpAny_bind (wpAny_letGo ?_)
  first
    | exact wpAny_bind (wpAny_pure (wpAny_pure ⟨.none, rfl, wpAny_pure h⟩))
    | exact wpAny_pure ⟨.none, rfl, wpAny_pure h⟩
end
section
variable {X : Cx}
theorem set_slice {pins : List (Addr × Obj)} {s : Shared} {σ : St} {H : Hp} {l b sl : Addr} {xs ys : List V} {a c : Int} {vl vu : Value} {Q : Unit → Shared → Prop} (I : Inv X pins σ H s)
    (hH : H l = some (.lst xs)) (hB : H b = some (.lst ys)) (hne : l ≠ b) (hs : s.heap.IsSliceOf sl vl vu .none) (ra : RelV (.int a) vl) (rc : RelV (.int c) vu) (h0 : 0 ≤ a) (hac : a ≤ c) (hc : c ≤ xs.length)
    (hz : xs.length + ys.length ≤ sizeLine) (h : ∀ s', Inv X pins σ (upd H l (.lst (xs.take a.toNat ++ ys ++ xs.drop c.toNat))) s' → Q () s') :
    wpAny (model X.prog X.w) X.A (setItem (.ref l) (.ref sl) (.ref b)) Q X.xe s := by
  obtain ⟨ta, rfl⟩ := ra
  obtain ⟨tc, rfl⟩ := rc
  obtain ⟨z, its, n, r, hl, e⟩ := I.lstM hH
  obtain ⟨z2, its2, n2, r2, hl2, e2⟩ := I.lstM hB
  obtain ⟨a', rfl⟩ := Int.eq_ofNat_of_zero_le h0
  obtain ⟨c', rfl⟩ := Int.eq_ofNat_of_zero_le (Int.le_trans h0 hac)
  simp only [Int.toNat_natCast] at h
  refine setItem_slice (a := a') (c := c') e e2 hne hs (.int _ _) (.int _ _) (by omega) (by rw [List.size_toArray]; omega) (by rw [List.size_toArray, List.size_toArray]; omega) (h _ ?_)
  refine I.lset (its' := its.take a' ++ its2 ++ its.drop c') (t' := s.toks) hH e ?_ (Vals.append (Vals.append (r.take _) r2) (r.drop _)) ?_
  · exact splice_eq its its2 a' c'
  · rw [List.length_append, List.length_append, List.length_take, List.length_drop]
    omega
end
end L2
namespace Att
open PySem PySem.W PySem.Calls PyProof.Rows
theorem ints_of_wellAll {P : Params} {h : Heap} : ∀ (ns : List Int) (vs : List Value), WellAll P h vs (ns.map WData.int) → IntsAre vs ns := by
  intro ns
  induction ns with
  | nil =>
    intro vs w
    rw [List.map_nil] at w
    cases w
    exact .nil
  | cons n ns ih =>
    intro vs w
    rw [List.map_cons] at w
    cases w with
    | cons a b =>
      cases a
      exact .cons _ _ (ih _ b)
theorem script_of {l : OpenLaw} {n : Nat} (hn : l.most = some n) {P : Params} {h : Heap} {args : List WData} {vals : List Value}
    (hpre : l.row.toRowW.claim.pre args = true) (hwl : WellAll P h vals args) :
    ∃ a vs ns, vals = [Value.ref a] ∧ args = [WData.list (ns.map WData.int)] ∧ h.get? a = some { cls := .type "list", data := .seq vs.toArray } ∧ IntsAre vs ns ∧ ns.length ≤ n := by
  have hsh : WShape.hasAll [] args [.list .int] = true := (pre_splitW hpre).1
  have hc : l.pre.holds [] { args := args } = true := (pre_splitW hpre).2
  obtain ⟨d, r, rfl, h1, h2⟩ := hasAllW_cons hsh
  obtain rfl := hasAllW_nil h2
  obtain ⟨xs, rfl, h3⟩ := hasW_list h1
  obtain ⟨ns, rfl⟩ := items_int h3
  have hlen : ns.length ≤ n := by
    unfold OpenLaw.pre at hc
    have h4 : (WTm.not (.lt (.lit (.int (n : Int))) (.len (.arg 0)))).holds [] { args := [.list (ns.map .int)] } = true := by
      have h4 := (holds_andW hc).1
      rw [hn] at h4
      exact h4
    have h5 := condW_of h4 (w_not (w_lt w_lit (w_len_list (w_arg rfl))))
    rw [List.length_map] at h5
    refine Nat.le_of_not_lt fun q => ?_
    have q' : (n : Int) < ((ns.length : Nat) : Int) := by omega
    first
      | (rw [decide_eq_true q'] at h5; exact absurd h5 (by decide))
      | (simp at h5; omega)
  cases hwl with
  | cons w1 w2 =>
    cases w2
    cases w1 with
    | list ho hall => exact ⟨_, _, ns, rfl, rfl, ho, ints_of_wellAll ns _ hall, hlen⟩
theorem post_true (l : OpenLaw) (args : List WData) : l.row.toRowW.claim.post args (.bool true) args = true :=
  postW_of (r := l.row.toRowW) (X := (true == true))
    (show WShape.has [] (.bool true) .bool = true by first | rfl | decide | simp [WShape.has, WShape.arms, WShape.armsAll])
    (show (WTm.eq .res (.lit (.bool true))).value [] { args := args, res := some (.bool true), after := args } = some (.bool (true == true)) from w_eq_bool (w_res rfl) w_lit) rfl
theorem attach {l : OpenLaw} {n : Nat} {q : Program} {loose : List Str} {XP : (Str → Option Value) → Heap → Prop} {YP : World → Heap → Prop} {d : DefRec} {x : Str}
    (hn : l.most = some n) (hdf : d.params.defaults = [])
    (hbind : ∀ pm cd doc v : Value, bindArgs (docDef d.name d.params d.body d.scope pm cd doc) ⟨[v], []⟩ = pure [(x, v)])
    (hx : d.scope.names.lookup x = some .local ∨ d.scope.names.lookup x = some .cell)
    (hk : d.scope.kind = .function) (hco : d.scope.isCoroutine = false) (hgen : d.scope.isGenerator = false)
    (body : ∀ (w : World) (s₀ s₁ s : Shared) (mg mb : Str → Option Value) (fa : Addr) (o : Obj) (pm cd doc : Value) (a : Addr) (vs : List Value) (ns : List Int),
      Ground q loose [] XP w s₀ mg mb s₁.heap → YP w s₁.heap →
      s₁.heap.get? fa = some o → o.data = .func (docDef d.name d.params d.body d.scope pm cd doc) → s₁.heap.CodeRec cd d.name → mg d.name = some (.ref fa) →
      s₁.heap.get? a = some { cls := .type "list", data := .seq vs.toArray } → IntsAre vs ns → ns.length ≤ n →
      s.gens = #[] → s.os = s₁.os →
      Fr s₁.heap s₁.heap.objs.size s.heap (bindL (envOfC d.name d.scope s₁.heap.objs.size fa cd).kindOf [(x, .ref a)] fun _ => none) →
      Cl s₁.heap.objs.size (cellsFrom (s₁.heap.objs.size + 1) d.scope.names []) s.heap (bindC (envOfC d.name d.scope s₁.heap.objs.size fa cd).kindOf [(x, .ref a)] fun _ => none) →
      wpAny (model l.prog w) (callerA.deeper (envOfC d.name d.scope s₁.heap.objs.size fa cd)) (execs d.body (envOfC d.name d.scope s₁.heap.objs.size fa cd))
        (fun f s' => f = .ret (.bool true) ∧ OldK s₁.heap s'.heap ∧ s'.os = s₁.os ∧ AllBare s'.gens) (fun _ _ => False) s) :
    WalkO q loose XP YP l.row.toRowW d [] (fun f vs => PySem.call f vs) := by
  intro w s₀ s₁ mg mb G Y fa o pm cd doc dV kV ho hd hcd hD hmg hg args vals as hpre hlay hrd hwl hlo
  obtain rfl : dV = .none := Dflts.none hD hdf
  obtain rfl : kV = .none := Dflts.noKw hD
  obtain ⟨a, vs, ns, rfl, rfl, hobj, hints, hlen⟩ := script_of hn hpre hwl
  refine enter_call ?_
  refine call_cells_ret (o := o) (by rw [depth_caller]; decide) ho (fd_plain hd) G.T.nolimit hcd (hbind pm cd doc (.ref a)) (fun y hy => ?_) (fun h₁ tk F X => ?_) hco hgen hk
  · obtain rfl : y = (x, Value.ref a) := List.mem_singleton.mp hy
    rcases hx with e | e
    · exact .inl e
    · exact .inr ⟨e, cellsFrom_some _ _ _ (.inl e)⟩
  · refine wpAny_mono (body w s₀ s₁ { s₁ with heap := h₁, toks := tk } mg mb fa o pm cd doc a vs ns G Y ho (fd_plain hd) hcd hmg hobj hints hlen hg rfl F X) (fun f s' hq => ?_) (fun _ _ hq => hq)
    obtain ⟨rfl, h2, h3, h4⟩ := hq
    exact ⟨.inl ⟨.bool true, .bool true, [], rfl, fun _ => rfl, .bool true, post_true l _, fun _ => ⟨List.Pairwise.nil, fun _ hm => (nomatch hm)⟩⟩, h2, h3, h4⟩
theorem attach_call {l : OpenLaw} {n : Nat} {q : Program} {loose : List Str} {XP : (Str → Option Value) → Heap → Prop} {YP : World → Heap → Prop} {d : DefRec}
    (hn : l.most = some n) (hdf : d.params.defaults = [])
    (call : ∀ (w : World) (s₀ s₁ : Shared) (mg mb : Str → Option Value) (fa : Addr) (o : Obj) (pm cd doc : Value) (a : Addr) (vs : List Value) (ns : List Int),
      Ground q loose [] XP w s₀ mg mb s₁.heap → YP w s₁.heap →
      s₁.heap.get? fa = some o → o.data = .func (docDef d.name d.params d.body d.scope pm cd doc) → s₁.heap.CodeRec cd d.name → mg d.name = some (.ref fa) →
      s₁.heap.get? a = some { cls := .type "list", data := .seq vs.toArray } → IntsAre vs ns → ns.length ≤ n → s₁.gens = #[] →
      codeAny (model l.prog w) callerA (.call (.ref fa) ⟨[.ref a], []⟩) (fun r s' => r = .ok (.ret (.bool true)) ∧ OldK s₁.heap s'.heap ∧ s'.os = s₁.os ∧ AllBare s'.gens) s₁) :
    WalkO q loose XP YP l.row.toRowW d [] (fun f vs => PySem.call f vs) := by
  intro w s₀ s₁ mg mb G Y fa o pm cd doc dV kV ho hd hcd hD hmg hg args vals as hpre hlay hrd hwl hlo
  obtain rfl : dV = .none := Dflts.none hD hdf
  obtain rfl : kV = .none := Dflts.noKw hD
  obtain ⟨a, vs, ns, rfl, rfl, hobj, hints, hlen⟩ := script_of hn hpre hwl
  refine enter_call (codeAny_mono (call w s₀ s₁ mg mb fa o pm cd doc a vs ns G Y ho (fd_plain hd) hcd hmg hobj hints hlen hg) fun r s' hq => ?_)
  obtain ⟨rfl, h2, h3, h4⟩ := hq
  exact ⟨.inl ⟨.bool true, .bool true, [], rfl, fun _ => rfl, .bool true, post_true l _, fun _ => ⟨List.Pairwise.nil, fun _ hm => (nomatch hm)⟩⟩, h2, h3, h4⟩
theorem attachN {l : OpenLaw} {n : Nat} {q : Program} {loose : List Str} {XP : (Str → Option Value) → Heap → Prop} {YP : World → Heap → Prop} {d : DefRec} {x : Str}
    (hn : l.most = some n) (hdf : d.params.defaults = [])
    (hbind : ∀ pm cd doc v : Value, bindArgs (docDef d.name d.params d.body d.scope pm cd doc) ⟨[v], []⟩ = pure [(x, v)])
    (hx : d.scope.names.lookup x = some .local ∨ d.scope.names.lookup x = some .cell)
    (hk : d.scope.kind = .function) (hco : d.scope.isCoroutine = false) (hgen : d.scope.isGenerator = false)
    (body : ∀ (w : World) (s₀ s₁ s : Shared) (mg mb : Str → Option Value) (fa : Addr) (o : Obj) (pm cd doc : Value) (a : Addr) (vs : List Value) (ns : List Int),
      Ground q loose [] XP w s₀ mg mb s₁.heap → YP w s₁.heap →
      s₁.heap.get? fa = some o → o.data = .func (docDef d.name d.params d.body d.scope pm cd doc) → s₁.heap.CodeRec cd d.name → mg d.name = some (.ref fa) →
      s₁.heap.get? a = some { cls := .type "list", data := .seq vs.toArray } → IntsAre vs ns → ns.length ≤ n →
      s.gens = #[] → s.os = s₁.os →
      Fr s₁.heap s₁.heap.objs.size s.heap (bindL (envOfC d.name d.scope s₁.heap.objs.size fa cd).kindOf [(x, .ref a)] fun _ => none) →
      Cl s₁.heap.objs.size (cellsFrom (s₁.heap.objs.size + 1) d.scope.names []) s.heap (bindC (envOfC d.name d.scope s₁.heap.objs.size fa cd).kindOf [(x, .ref a)] fun _ => none) →
      wpAny (model l.prog w) (callerA.deeper (envOfC d.name d.scope s₁.heap.objs.size fa cd)) (execs d.body (envOfC d.name d.scope s₁.heap.objs.size fa cd))
        (fun f s' => f = .ret (.bool true) ∧ (∀ b o, s₁.heap.get? b = some o → s'.heap.get? b = some o) ∧ s'.os = s₁.os ∧ s'.gens = #[]) (fun _ _ => False) s) :
    WalkN q loose XP YP l.row.toRowW d [] (fun f vs => PySem.call f vs) := by
  intro w s₀ s₁ mg mb G Y fa o pm cd doc dV kV ho hd hcd hD hmg hg args vals as hpre hlay hrd hwl hlo
  obtain rfl : dV = .none := Dflts.none hD hdf
  obtain rfl : kV = .none := Dflts.noKw hD
  obtain ⟨a, vs, ns, rfl, rfl, hobj, hints, hlen⟩ := script_of hn hpre hwl
  refine enter_callW ?_
  refine call_cells_ret (o := o) (by rw [depth_caller]; decide) ho (fd_plain hd) G.T.nolimit hcd (hbind pm cd doc (.ref a)) (fun y hy => ?_) (fun h₁ tk F X => ?_) hco hgen hk
  · obtain rfl : y = (x, Value.ref a) := List.mem_singleton.mp hy
    rcases hx with e | e
    · exact .inl e
    · exact .inr ⟨e, cellsFrom_some _ _ _ (.inl e)⟩
  · refine wpAny_mono (body w s₀ s₁ { s₁ with heap := h₁, toks := tk } mg mb fa o pm cd doc a vs ns G Y ho (fd_plain hd) hcd hmg hobj hints hlen hg rfl F X) (fun f s' hq => ?_) (fun _ _ hq => hq)
    obtain ⟨rfl, h2, h3, h4⟩ := hq
    exact ⟨.inl ⟨.bool true, .bool true, [], rfl, fun _ => rfl, .bool true, post_true l _, fun _ => ⟨List.Pairwise.nil, fun _ hm => (nomatch hm)⟩⟩, h2, h3, h4⟩
section
variable {prog : Program} {w : World} {A : Around} {E : Value → Shared → Prop} {s : Shared} {K : Frag}
theorem call_fn {R : Result → Shared → Prop} {name qual : Str} {params : Arguments} {body : List Stmt} {scope : Scope} {dV kV doc pm cdv ct oc : Value} {an od : Option Addr} {osl : Array (Option Value)} {f : Addr} {args : Args} {binds : List (Str × Value)}
    (X : K.In s.heap) (hlim : s.heap.NoLimit) (ho : K.lookup f = some ⟨oc, od, .func (fnOf name qual params body scope dV kV doc pm an cdv ct), osl⟩) (hcd : codeIn K cdv qual = true) (hroom : A.depth < recursionLimit)
    (hbind : BindsTo s (fnOf name qual params body scope dV kV doc pm an cdv ct) args binds)
    (hkind : (binds.all fun y => scope.names.lookup y.1 == some .local || scope.names.lookup y.1 == some .cell) = true)
    (h : ∀ s₁, InCallC s s.heap.objs.size (bindL (envOfC qual scope s.heap.objs.size f cdv).kindOf binds fun _ => none) (cellsFrom (s.heap.objs.size + 1) scope.names [])
        (bindC (envOfC qual scope s.heap.objs.size f cdv).kindOf binds fun _ => none) s₁ →
      wpAny (model prog w) (A.deeper (envOfC qual scope s.heap.objs.size f cdv)) (execs body (envOfC qual scope s.heap.objs.size f cdv))
        (fun fl s' => R (.ok (.ret (match fl with | .ret v => v | _ => .none))) s')
        (fun e s' => wpAny (model prog w) (A.deeper (envOfC qual scope s.heap.objs.size f cdv)) (leaving (envOfC qual scope s.heap.objs.size f cdv) e) (fun _ s'' => R (.error e) s'') (fun e' s'' => R (.error e') s'') s') s₁)
    (hco : scope.isCoroutine = false) (hgen : scope.isGenerator = false) (hk : scope.kind = .function) : codeAny (model prog w) A (.call (.ref f) args) R s := by
  refine codeAny_call_function hroom (X _ _ ho) rfl hco hgen rfl (codeRec_of X hcd) (hbind _ _ _ _ ?_)
  refine wpAny_newFunctionEnv_cells hk (kindsX hkind _) fun env he s₁ x => ?_
  subst he
  exact ⟨hlim.keeps x.toInCall.keep, codeAny_func (h s₁ x)⟩
theorem make_obj {R : Result → Shared → Prop} {C fI : Addr} {rest : List Value} {kw : List (Str × Value)}
    (X : K.In s.heap) (hm : makesIn K C = true) (hi : findIn K (.ref C) "__init__" = some (some (.ref fI))) (hf : isFn K (.ref fI) = true)
    (h : codeAny (model prog w) (A.under (.builtin "type.__call__" ⟨.ref C :: rest, kw⟩)) (.call (.ref fI) ⟨.ref (s.heap.objs.size + 1) :: rest, kw⟩) (InitBack (s.heap.objs.size + 1) R)
      { s with heap := (s.heap.push emptyDict).push (instObj C s.heap.objs.size) }) : codeAny (model prog w) A (.call (.ref C) ⟨rest, kw⟩) R s := by
  obtain ⟨hh, g, d, t, os⟩ := s
  exact make_core (makes_of X hm) (looks_findIn X hi) (fun self => bind_fn X self (beq_iff_eq.mp hf)) (.inl rfl) h
theorem get_field {x C : Addr} {ox : Obj} {es : List DictEntry} {n : Nat} {name : Str} {expr : Bool} {v : Value} {Q : Value → Shared → Prop}
    (X : K.In s.heap) (I : PySem.W.InstAt s.heap x ox C (some (dictOf es n))) (hg : plainGet K C name = true) (hh : hasDictIn K C = true) (ha : findIn K (.ref C) name = some none)
    (hl : getL name es = some (some v)) (hv : handedIn v = true) (h : Q v { s with toks := s.toks + 1 }) : wpAny (model prog w) A (getAttr (.ref x) name expr) Q E s :=
  get_value X I (plainGet_of hg).1 (findObj_own hh ha rfl hl) hv h
theorem get_method {x C f : Addr} {ox : Obj} {es : List DictEntry} {n : Nat} {name : Str} {pl : Sem Bool} {Q : Value × List Value → Shared → Prop}
    (X : K.In s.heap) (I : PySem.W.InstAt s.heap x ox C (some (dictOf es n))) (hg : plainGet K C name = true) (hf : findIn K (.ref C) name = some (some (.ref f))) (ht : isFn K (.ref f) = true)
    (hl : getL name es = some none) (h : Q (.ref f, [.ref x]) s) : wpAny (model prog w) A (getMethod (.ref x) name pl) Q E s :=
  method_fn X I (plainGet_of hg).1 (plainGet_of hg).2 hf (beq_iff_eq.mp ht) (by show (lookIn name (dictOf es n)).map _ = _; rw [lookIn_dict, hl]; rfl) h
def noObjs (h : Heap) : Heap := { h with objs := #[] }
theorem noObjs_get (h : Heap) (b : Addr) : (noObjs h).get? b = none := by
  cases e : (noObjs h).get? b with
  | none => rfl
  | some o => exact absurd (Heap.lt_size e) (Nat.not_lt_zero _)
def ledger (h : Heap) (L d : Addr) : List (Addr × Obj) := (List.range h.objs.size).filterMap fun a => if a = L ∨ a = d then none else (h.get? a).map fun o => (a, o)
theorem mem_ledger {h : Heap} {L d a : Addr} {o : Obj} : (a, o) ∈ ledger h L d ↔ a ≠ L ∧ a ≠ d ∧ h.get? a = some o := by
  unfold ledger
  rw [List.mem_filterMap]
  constructor
  · rintro ⟨b, _, e⟩
    split at e
    · cases e
    · rename_i hb
      obtain ⟨o', ho, e'⟩ := Option.map_eq_some_iff.mp e
      cases e'
      exact ⟨fun q => hb (.inl q), fun q => hb (.inr q), ho⟩
  · rintro ⟨n1, n2, ho⟩
    refine ⟨a, List.mem_range.mpr (Heap.lt_size ho), ?_⟩
    rw [if_neg (show ¬ (a = L ∨ a = d) from fun q => q.elim n1 n2), ho] <;> rfl
theorem news_ledger {h : Heap} {L d : Addr} {od : Obj} (hne : d ≠ L) (ho : h.get? d = some od) : News (noObjs h) L h ([] ++ (d, od) :: ledger h L d) := by
  rintro ⟨a, o⟩ hp
  rcases List.mem_cons.mp hp with e | hp
  · cases e
    exact ⟨ho, hne, noObjs_get _ _⟩
  · obtain ⟨n1, n2, e⟩ := mem_ledger.mp hp
    exact ⟨e, n1, noObjs_get _ _⟩
theorem fr_all {h : Heap} {L : Addr} {m : Str → Option Value} (n : h.Ns L m) : Fr (noObjs h) L h m :=
  ⟨n, fun b o e => (by rw [noObjs_get] at e; cases e), Nat.zero_le _⟩
theorem upd_ledger {h : Heap} {L d : Addr} {o o' : Obj} : Upd d o o' ((d, o) :: ledger h L d) ((d, o') :: ledger h L d) :=
  .head fun ⟨_, _⟩ hp => (mem_ledger.mp hp).2.1
theorem set_field {x C dx L : Addr} {ox : Obj} {m : Str → Option Value} {es es' : List DictEntry} {n n' : Nat} {name : Str} {v : Value} {Q : Unit → Shared → Prop}
    (X : K.In s.heap) (I : PySem.W.InstAt s.heap x ox C (some (dictOf es n))) (hd : ox.dict = some dx) (hL : s.heap.Ns L m) (hne : dx ≠ L)
    (hs : findIn K (.ref C) "__setattr__" = some (some (.builtin "object.__setattr__"))) (hp : plainOver K C = true) (ht : takerIn K C name = some none) (hh : hasDictIn K C = true) (hl : (getL name es).isSome = true)
    (e : (putL name (PyData.keyHash w.params name) (.str name (s.toks + 1)) v es, putN name es n) = (es', n')) (hz : es'.length ≤ 1000)
    (h : ∀ h' : Heap, h'.Ns L m → h'.get? dx = some (dictOf es' n') → (∀ b o, b ≠ dx → b ≠ L → s.heap.get? b = some o → h'.get? b = some o) → Q () { s with heap := h', toks := s.toks + 2 }) :
    wpAny (model prog w) A (setAttr (.ref x) name v) Q E s := by
  obtain ⟨e1, e2⟩ := Prod.mk.inj e
  have hdx : s.heap.get? dx = some (dictOf es n) := by
    have := I.dict
    rw [hd] at this
    exact this
  refine set_plain X I hs (osa_dict (s := { s with toks := s.toks + 1 }) (h₀ := noObjs s.heap) (L := L) (m := m) (od := dictOf es n) (od' := dictOf es' n') (es := es') (n := n') (pre := []) (post := ledger s.heap L dx)
    (fr_all hL) (news_ledger hne hdx) X I hd hp ht hh hl (fun _ q => nomatch q) (fun ⟨_, _⟩ q => (mem_ledger.mp q).2.1) (by rw [putName_dict, e1, e2]) rfl hz fun h' F' N' => ?_)
  exact h h' F'.ns (N'.get (List.Mem.head _)) fun b o n1 n2 ho => N'.get (List.Mem.tail _ (mem_ledger.mpr ⟨n2, n1, ho⟩))
end
end Att
namespace L2
open PySem PySem.Spec PyProof.Rows
theorem vals_ints : ∀ {vs : List Value} {ns : List Int}, IntsAre vs ns → Vals (ns.map V.int) vs
  | _, _, .nil => .nil
  | _, _, .cons n t h => .cons ⟨t, rfl⟩ (vals_ints h)
def Only (H : Hp) : Prop := ∀ b, H b = none ∨ ∃ o xs, H b = some (.frz o (.lst xs))
theorem law_call {P : Program} {w : World} {K : PySem.W.Frag} {mg mb : Str → Option Value} {CX : CXT} {k : Nat} {fa a : Addr} {fd : FuncData} {x : Str} {sp : Sp} {s₁ : Shared} {vs : List Value} {ns : List Int}
    (KX : K.In s₁.heap) (hns : s₁.heap.Ns mainGlobals mg) (hb : s₁.heap.Ns builtinsNs mb) (hbb : ∀ x : Str, x ≠ "__name__" → mb x = bootBuiltins x) (hlim : s₁.heap.NoLimit) (hg : s₁.gens = #[])
    (ha : s₁.heap.get? a = some { cls := .type "list", data := .seq vs.toArray }) (hi : IntsAre vs ns) (hl : ns.length ≤ sizeLine) (hr : Room k callerA)
    (F : ∀ base : Heap, K.In base → base.Ns mainGlobals mg → FnOk P w K mg base CX k fa fd [x] sp) (hbind : ∀ (s : Shared) (u : Value), BindsTo s fd ⟨[u], []⟩ [(x, u)])
    (hsp : ∀ H : Hp, Only H → SqL K H a (ns.map V.int) → sp [.ref a] H (fun v _ => v = .bl true) fun _ _ _ => False)
    (hCX : ∀ H e s', CX [] H s₁ (fun _ _ _ => False) e s' → False) :
    codeAny (model P w) callerA (.call (.ref fa) ⟨[.ref a], []⟩) (fun r s' => r = .ok (.ret (.bool true)) ∧ OldK s₁.heap s'.heap ∧ s'.os = s₁.os ∧ AllBare s'.gens) s₁ := by
  have rv := vals_ints hi
  have lenV := hi.length
  have core : ∀ H : Hp, Only H → SqL K H a (ns.map V.int) → HOk P w H s₁.heap → (∀ b, H b ≠ none → b = a) → (H a ≠ none → K.lookup a = none) →
      codeAny (model P w) callerA (.call (.ref fa) ⟨[.ref a], []⟩) (fun r s' => r = .ok (.ret (.bool true)) ∧ OldK s₁.heap s'.heap ∧ s'.os = s₁.os ∧ AllBare s'.gens) s₁ := by
    intro H hO hS hok hA hK
    have base_of : ∀ {b : Addr} {o : Obj}, s₁.heap.get? b = some o → H b = none → (hidT s₁.heap H).get? b = some o := fun e n => hidT_get e n
    have noA : ∀ {b : Addr} {o : Obj} {es : Array DictEntry} {ep : Nat}, s₁.heap.get? b = some o → o.data = .dict es ep → H b = none := fun {b o es ep} e d => by
      cases q : H b with
      | none => rfl
      | some u =>
        have e' : b = a := hA b (by rw [q]; simp)
        subst e'
        rw [ha] at e; cases e
        have d' : Data.seq vs.toArray _ = Data.dict es ep := d
        cases d'
    have nsK : ∀ {b : Addr} {m : Str → Option Value}, s₁.heap.Ns b m → (hidT s₁.heap H).Ns b m := fun {b m} ⟨o, es, ep, e, d, r⟩ => ⟨o, es, ep, base_of e (noA e d), d, r⟩
    have hKb : K.In (hidT s₁.heap H) := fun b o e => base_of (KX b o e) (by
      cases q : H b with
      | none => rfl
      | some u =>
        have e' : b = a := hA b (by rw [q]; simp)
        subst e'
        rw [hK (by rw [q]; simp)] at e; cases e)
    have hM : Mod K mg (hidT s₁.heap H) := ⟨hKb, nsK hns, ⟨mb, nsK hb, hbb⟩, let ⟨mc, h1, h2⟩ := hlim; ⟨mc, nsK h1, h2⟩⟩
    have e0 : Env0 P w K mg (hidT s₁.heap H) callerA [] s₁ H := ⟨rfl, hM, fun b o e => of_hidT e, Nat.le_of_eq (hidT_size _ _), trivial, fun b hb => absurd (show b ∈ ([] : List Addr) from hb) (by simp), hok, .of_eq hg⟩
    refine codeAny_mono ((F _ hKb (nsK hns)).run callerA [] s₁ H ⟨[.ref a], []⟩ [.ref a] [.ref a] _ _ hr e0 (hbind s₁ (.ref a)) (.cons rfl .nil) (hsp H hO hS)) fun r s' h => ?_
    cases r with
    | error e => exact (hCX H e s' h).elim
    | ok fl =>
      cases fl with
      | next => exact False.elim h
      | brk => exact False.elim h
      | cont => exact False.elim h
      | ret u =>
        obtain ⟨v, H', os, bare, un, hok', r', q⟩ := h
        have q' : v = .bl true := q
        subst q'
        obtain rfl : u = Value.bool true := r'
        refine ⟨rfl, OldK.of_keep fun b o e => ?_, os, bare⟩
        cases q : H b with
        | none => exact un.keep b o e q (by intro z; exact absurd (show b ∈ ([] : List Addr) from z) (by simp)) (by simp)
        | some u =>
          rcases hO b with z | ⟨ob, xs, z⟩
          · rw [q] at z; cases z
          · have z2 := un.frzs b ob _ z
            obtain ⟨e1, _⟩ := hok b _ z
            obtain ⟨e2, _⟩ := hok' b _ z2
            rw [e] at e1; cases e1
            exact e2
  cases hk : K.lookup a with
  | some o =>
    have e := KX a o hk
    rw [ha] at e
    cases e
    refine core (fun _ => none) (fun _ => .inl rfl) (.inr ⟨_, vs.toArray, _, hk, rfl, rfl, rfl, by rw [List.size_toArray, lenV]; exact hl, by simpa using rv⟩) (fun b u z => by have z' : (none : Option HO) = some u := z; cases z') (fun b z => absurd rfl z) fun z => absurd rfl z
  | none =>
    refine core (fun b => if b = a then some (.frz { cls := .type "list", data := .seq vs.toArray } (.lst (ns.map V.int))) else none) (fun b => ?_) (.inl (.inr ⟨{ cls := .type "list", data := .seq vs.toArray }, if_pos rfl⟩)) (fun b u z => ?_) (fun b z => ?_) fun _ => hk
    · by_cases hb : b = a
      · exact .inr ⟨_, _, if_pos hb⟩
      · exact .inl (if_neg hb)
    · by_cases hb : b = a
      · have z' := (if_pos hb).symm.trans z
        cases z'
        subst hb
        exact ⟨ha, by rw [List.length_map]; exact hl, vs, _, rv, ha⟩
      · have z' := (if_neg hb).symm.trans z
        cases z'
    · by_cases hb : b = a
      · exact hb
      · exact absurd (if_neg hb) z
end L2
namespace L2
open PySem PySem.Spec PyProof.Rows
abbrev KOf {K : PySem.W.Frag} {h : Heap} (_ : K.In h) : PySem.W.Frag := K
theorem walk_of {l : PySem.W.OpenLaw} {n k : Nat} {q : Program} {loose : List Str} {XP : (Str → Option Value) → Heap → Prop} {YP : World → Heap → Prop} {d : DefRec} {K : Params → PySem.W.Frag} {CX : World → CXT} {sp : World → Sp} {x : Str}
    (hn : l.most = some n) (hn2 : n ≤ sizeLine) (hdf : d.params.defaults = []) (hr : Room k callerA)
    (hY : ∀ (w : World) (h : Heap), YP w h → (K w.params).In h)
    (F : ∀ (w : World) (mg : Str → Option Value) (fa : Addr) (h : Heap), (K w.params).In h → h.Ns mainGlobals mg → mg d.name = some (.ref fa) →
      ∃ fd : FuncData, (∀ (s : Shared) (u : Value), BindsTo s fd ⟨[u], []⟩ [(x, u)]) ∧
        ∀ base : Heap, (K w.params).In base → base.Ns mainGlobals mg → FnOk l.prog w (K w.params) mg base (CX w) k fa fd [x] (sp w))
    (hsp : ∀ (w : World) (H : Hp) (a : Addr) (ns : List Int), ns.length ≤ n → Only H → SqL (K w.params) H a (ns.map V.int) → sp w [.ref a] H (fun v _ => v = .bl true) fun _ _ _ => False)
    (hCX : ∀ (w : World) (H : Hp) (s : Shared) (e : Value) (s' : Shared), CX w [] H s (fun _ _ _ => False) e s' → False) :
    PySem.W.WalkO q loose XP YP l.row.toRowW d [] (fun f vs => PySem.call f vs) := by
  refine Att.attach_call hn hdf fun w s₀ s₁ mg mb fa o pm cd doc a vs ns G Y ho hd hcd hmg hobj hints hlen hg => ?_
  have KX := hY w _ Y
  obtain ⟨fd, hb, hF⟩ := F w mg fa _ KX G.T.g hmg
  exact law_call KX G.T.g G.T.b G.T.builtins G.T.nolimit hg hobj hints (Nat.le_trans hlen hn2) hr hF hb (fun H hO hS => hsp w H a ns hlen hO hS) fun H e s' => hCX w H s₁ e s'
theorem walk_ofK {l : PySem.W.OpenLaw} {n k : Nat} {q : Program} {loose : List Str} {XP : (Str → Option Value) → Heap → Prop} {YP : World → Heap → Prop} {d : DefRec} {K : Params → PySem.W.Frag} {CX : CXT} {sp : PySem.W.Frag → Sp} {x : Str}
    (hn : l.most = some n) (hn2 : n ≤ sizeLine) (hdf : d.params.defaults = []) (hr : Room k callerA)
    (hY : ∀ (w : World) (h : Heap), YP w h → (K w.params).In h)
    (F : ∀ (w : World) (mg : Str → Option Value) (fa : Addr) (h : Heap), (K w.params).In h → h.Ns mainGlobals mg → mg d.name = some (.ref fa) →
      ∃ fd : FuncData, (∀ (s : Shared) (u : Value), BindsTo s fd ⟨[u], []⟩ [(x, u)]) ∧
        ∀ base : Heap, (K w.params).In base → base.Ns mainGlobals mg → FnOk l.prog w (K w.params) mg base CX k fa fd [x] (sp (K w.params)))
    (hsp : ∀ (K : PySem.W.Frag) (H : Hp) (a : Addr) (ns : List Int), ns.length ≤ n → Only H → SqL K H a (ns.map V.int) → sp K [.ref a] H (fun v _ => v = .bl true) fun _ _ _ => False)
    (hCX : ∀ (H : Hp) (s : Shared) (e : Value) (s' : Shared), CX [] H s (fun _ _ _ => False) e s' → False) :
    PySem.W.WalkO q loose XP YP l.row.toRowW d [] (fun f vs => PySem.call f vs) :=
  walk_of (K := K) (CX := fun _ => CX) (sp := fun w => sp (K w.params)) hn hn2 hdf hr hY F (fun w H a ns h1 h2 h3 => hsp (K w.params) H a ns h1 h2 h3) fun _ H s e s' => hCX H s e s'
end L2
namespace L2
open PySem PySem.Spec PyProof.Rows
def inClass (s : Stmt) (j : Nat) : Stmt := match s with
  | .ClassDef _ _ _ body _ _ _ _ _ _ _ => body.getD j (.Pass ⟨0, 0, 0, 0⟩)
  | _ => .Pass ⟨0, 0, 0, 0⟩
def defArgs (s : Stmt) : Arguments := match s with
  | .FunctionDef _ a _ _ _ _ _ _ _ _ => a
  | _ => { posonlyargs := [], args := [], vararg := none, kwonlyargs := [], kw_defaults := [], kwarg := none, defaults := [] }
def defBody (s : Stmt) : List Stmt := match s with
  | .FunctionDef _ _ b _ _ _ _ _ _ _ => b
  | _ => []
def defScope (s : Stmt) : Scope := match s with
  | .FunctionDef _ _ _ _ _ _ sc _ _ _ => sc
  | _ => { kind := .function, names := [], isGenerator := false, isCoroutine := false }
abbrev CX0 : CXT := fun _ _ _ _ _ _ => False
abbrev E0 : XK := fun _ _ _ => False
theorem pass0 {X : Cx} : Passes CX0 X E0 := fun _ _ _ _ _ _ _ h => h.elim
structure Fun (K : PySem.W.Frag) (x qual : Str) (st : Stmt) (f : Addr) (fd : FuncData) : Prop where
  ex : ∃ (oc : Value) (od : Option Addr) (kV doc pm : Value) (an : Option Addr) (cdv ct : Value) (osl : Array (Option Value)),
    fd = PySem.W.fnOf x qual (defArgs st) (defBody st) (defScope st) .none kV doc pm an cdv ct ∧ K.lookup f = some ⟨oc, od, .func fd, osl⟩ ∧ PySem.W.codeIn K cdv qual = true
  kp : PySem.W.keepIn K (.ref f) = true
section
variable {P : Program} {w : World} {K : PySem.W.Frag} {mg : Str → Option Value} {base : Heap}
theorem Fun.ok {x qual : Str} {st : Stmt} {f : Addr} {fd : FuncData} {N ps : List Str} {k : Nat} {sp : Sp} (F : Fun K x qual st f fd) (S : FnScope N ps (defScope st)) (len : ∀ vs H Q E, sp vs H Q E → vs.length = ps.length)
    (hbody : ∀ (cdv : Value) (A : Around) (outer : List Env) (s : Shared) (H : Hp) (vs : List V) (Q : VK) (E : XK), Room k (A.deeper (envOfC qual (defScope st) s.heap.objs.size f cdv)) → sp vs H Q E →
      ∃ t, PSs (cxOf CX0 P w K mg base N qual (defScope st) f cdv A outer s H E).nox (defBody st) t ∧ t { nx := fun _ H' => Q .non H', rt := Q } (start N vs) H) : FnOk P w K mg base CX0 (k + 1) f fd ps sp := by
  obtain ⟨oc, od, kV, doc, pm, an, cdv, ct, osl, rfl, lk, hcd⟩ := F.ex
  refine fn_of lk hcd S len fun A outer s H vs Q E hr hsp => ?_
  obtain ⟨t, h, q⟩ := hbody cdv A outer s H vs Q E hr hsp
  exact ⟨t, h.nox, q⟩
theorem Fun.binds {x qual : Str} {st : Stmt} {f : Addr} {fd : FuncData} {ps : List Str} (F : Fun K x qual st f fd)
    (h : ∀ (kV doc pm : Value) (an : Option Addr) (cdv ct : Value) (us : List Value), us.length = ps.length → bindArgs (PySem.W.fnOf x qual (defArgs st) (defBody st) (defScope st) .none kV doc pm an cdv ct) ⟨us, []⟩ = pure (ps.zip us)) : Binds K fd ps [] := by
  obtain ⟨oc, od, kV, doc, pm, an, cdv, ct, osl, rfl, lk, hcd⟩ := F.ex
  exact .all (h kV doc pm an cdv ct)
theorem fun_mk {x qual : Str} {st : Stmt} {f : Addr} {oc : Value} {od an : Option Addr} {osl : Array (Option Value)} {kV doc pm cdv ct : Value} (l : K.lookup f = some ⟨oc, od, .func (PySem.W.fnOf x qual (defArgs st) (defBody st) (defScope st) .none kV doc pm an cdv ct), osl⟩)
    (c : PySem.W.codeIn K cdv qual = true) (k : PySem.W.keepIn K (.ref f) = true) : Fun K x qual st f (PySem.W.fnOf x qual (defArgs st) (defBody st) (defScope st) .none kV doc pm an cdv ct) := ⟨⟨oc, od, kV, doc, pm, an, cdv, ct, osl, rfl, l, c⟩, k⟩
end
theorem hu_of {A : Around} {k : Nat} (hr : Room k A) : A.units + 1 < cLine := Nat.lt_of_le_of_lt (Nat.add_le_add_left (by decide : 1 ≤ 64) _) hr.units
theorem small1000 {n : Nat} (h : n ≤ 1000) : n < sizeLine := Nat.lt_of_le_of_lt h (by decide)
section
variable {X : Cx}
theorem pv (i : Nat) {x : Str} {pos : Pos} (hN : X.N[i]? = some x := by rfl) (hv : Vis X.env.scope x := by first | exact Or.inl rfl | exact Or.inr (Or.inl rfl) | exact Or.inr (Or.inr rfl)) (hd : (x == ("__debug__" : Str)) = false := by decide)
    (hcd : (x == ("__classdict__" : Str)) = false := by decide) : PE X (.Name x pos) (tVar i) := pe_var hN hv hd hcd
end
theorem iteF {A B : Prop} (h : B) : if false = true then A else B := by
  rw [if_neg Bool.false_ne_true]
  exact h
theorem iteT {A B : Prop} (h : A) : if true = true then A else B := by
  rw [if_pos rfl]
  exact h
theorem ite2 {c A B : Prop} [Decidable c] (h1 : c → A) (h2 : ¬ c → B) : if c then A else B := by
  by_cases h : c
  · rw [if_pos h]
    exact h1 h
  · rw [if_neg h]
    exact h2 h
theorem iteNS {c A B : Prop} [Decidable c] (hc : c) (h : B) : if (!decide c) = true then A else B := by
  rw [decide_eq_true hc]
  exact iteF h
def Same (H H' : Hp) : Prop := ∀ b o, H b = some o → H' b = some o
theorem Same.refl (H : Hp) : Same H H := fun _ _ h => h
theorem Same.trans {H H1 H2 : Hp} (a : Same H H1) (b : Same H1 H2) : Same H H2 := fun c o h => b c o (a c o h)
theorem Same.free {H H' : Hp} (e : Same H H') {l : Addr} (h : H' l = Option.none) : H l = Option.none := by
  cases q : H l with
  | none => rfl
  | some o =>
    rw [e l o q] at h
    cases h
theorem Same.seq {K : PySem.W.Frag} {H H' : Hp} {a : Addr} {xs : List V} (e : Same H H') (h : SqL K H a xs) : SqL K H' a xs := by
  rcases h with (h | ⟨o, h⟩) | h
  · exact .inl (.inl (e _ _ h))
  · exact .inl (.inr ⟨o, e _ _ h⟩)
  · exact .inr h
end L2
namespace L2
open PySem PySem.Spec PyProof.Rows
section
variable {κ : Type} [DecidableEq κ]
def valV (kvs : List (κ × V)) (k : κ) : Option V := (kvs.find? fun kv => decide (kv.1 = k)).map (·.2)
def putK (kvs : List (κ × V)) (k : κ) (v : V) : List (κ × V) :=
  if (kvs.any fun kv => decide (kv.1 = k)) = true then kvs.map (fun kv => if kv.1 = k then (kv.1, v) else kv) else kvs ++ [(k, v)]
def dropK (kvs : List (κ × V)) (k : κ) : List (κ × V) := kvs.filter fun kv => decide (kv.1 ≠ k)
theorem valV_nil {k : κ} : valV ([] : List (κ × V)) k = none := rfl
theorem valV_pos {p : κ × V} {r : List (κ × V)} {k : κ} (e : p.1 = k) : valV (p :: r) k = some p.2 := by simp [valV, List.find?_cons, e]
theorem valV_neg {p : κ × V} {r : List (κ × V)} {k : κ} (e : ¬ p.1 = k) : valV (p :: r) k = valV r k := by simp [valV, List.find?_cons, e]
theorem valV_any (k : κ) : ∀ kvs : List (κ × V), (kvs.any fun kv => decide (kv.1 = k)) = (valV kvs k).isSome
  | [] => rfl
  | p :: r => by
    rw [List.any_cons]
    by_cases e : p.1 = k
    · simp only [valV_pos e, decide_eq_true e, Bool.true_or, Option.isSome_some]
    · rw [valV_neg e, decide_eq_false e, Bool.false_or]; exact valV_any k r
theorem valV_map (k j : κ) (y : V) : ∀ kvs : List (κ × V), valV (kvs.map fun kv => if kv.1 = k then (kv.1, y) else kv) j = (valV kvs j).map fun x => if j = k then y else x
  | [] => rfl
  | p :: r => by
    have ih := valV_map k j y r
    rw [List.map_cons]
    by_cases h : p.1 = k
    · rw [if_pos h]
      by_cases e : p.1 = j
      · rw [valV_pos (p := (p.1, y)) e, valV_pos e, Option.map_some, if_pos (e.symm.trans h)]
      · rw [valV_neg (p := (p.1, y)) e, valV_neg e, ih]
    · rw [if_neg h]
      by_cases e : p.1 = j
      · rw [valV_pos (p := p) e, valV_pos e, Option.map_some, if_neg (fun z => h (e.trans z))]
      · rw [valV_neg (p := p) e, valV_neg e, ih]
theorem valV_snoc (k j : κ) (y : V) : ∀ kvs : List (κ × V), valV kvs k = none → valV (kvs ++ [(k, y)]) j = if j = k then some y else valV kvs j
  | [], _ => by
    by_cases e : k = j
    · rw [if_pos e.symm]; exact valV_pos (p := (k, y)) e
    · rw [if_neg (fun z => e z.symm)]; exact valV_neg (p := (k, y)) e
  | p :: r, hn => by
    rw [List.cons_append]
    have hk : ¬ p.1 = k := fun z => by rw [valV_pos z] at hn; cases hn
    rw [valV_neg hk] at hn
    have ih := valV_snoc k j y r hn
    by_cases e : p.1 = j
    · rw [valV_pos e, valV_pos e, if_neg (fun z => hk (e.trans z))]
    · rw [valV_neg e, valV_neg e, ih]
theorem valV_put (kvs : List (κ × V)) (k j : κ) (y : V) : valV (putK kvs k y) j = if j = k then some y else valV kvs j := by
  unfold putK
  by_cases a : (kvs.any fun kv => decide (kv.1 = k)) = true
  · rw [if_pos a, valV_map]
    rw [valV_any] at a
    by_cases e : j = k
    · obtain ⟨x, hx⟩ := Option.isSome_iff_exists.mp a
      rw [if_pos e, e, hx, Option.map_some, if_pos rfl]
    · rw [if_neg e]
      cases valV kvs j with
      | none => rfl
      | some x => rw [Option.map_some, if_neg e]
  · rw [if_neg a]
    refine valV_snoc k j y kvs ?_
    rw [valV_any] at a
    cases q : valV kvs k with
    | none => rfl
    | some x => rw [q] at a; exact (a rfl).elim
theorem length_putK (kvs : List (κ × V)) (k : κ) (v : V) : (putK kvs k v).length ≤ kvs.length + 1 := by
  unfold putK
  split
  · rw [List.length_map]; omega
  · rw [List.length_append, List.length_cons, List.length_nil]; omega
theorem putK_new {kvs : List (κ × V)} {k : κ} (v : V) (h : valV kvs k = none) : putK kvs k v = kvs ++ [(k, v)] := by
  unfold putK
  rw [valV_any, h]
  exact if_neg (by decide)
theorem RelO.isSome_eq {o : Option V} {u : Option Value} (r : RelO o u) : o.isSome = u.isSome := by
  cases o with
  | none => cases u with
    | none => rfl
    | some _ => exact (show False from r).elim
  | some _ => cases u with
    | none => exact (show False from r).elim
    | some _ => rfl
theorem RelO.getD {o : Option V} {u : Option Value} {d : V} {d' : Value} (r : RelO o u) (rd : RelV d d') : RelV (o.getD d) (u.getD d') := by
  cases o with
  | none => cases u with
    | none => exact rd
    | some _ => exact (show False from r).elim
  | some _ => cases u with
    | none => exact (show False from r).elim
    | some _ => exact r
theorem KV.val {kvs : List (κ × V)} {vs : List (κ × Value)} (r : KV kvs vs) (k : κ) : RelO (valV kvs k) (valueAt vs k) := by
  unfold KV at r
  induction r with
  | nil => exact True.intro
  | @cons p q ps qs h t ih =>
    obtain ⟨h1, h2⟩ := h
    by_cases e : p.1 = k
    · have e' : q.1 = k := h1.symm.trans e
      have b : valueAt (q :: qs) k = some q.2 := by simp [valueAt, List.find?_cons, e']
      rw [valV_pos e, b]; exact h2
    · have e' : ¬ q.1 = k := fun z => e (h1.trans z)
      have b : valueAt (q :: qs) k = valueAt qs k := by simp [valueAt, List.find?_cons, e']
      rw [valV_neg e, b]; exact ih
theorem KV.any {kvs : List (κ × V)} {vs : List (κ × Value)} (r : KV kvs vs) (k : κ) : (kvs.any fun kv => decide (kv.1 = k)) = vs.any fun kv => decide (kv.1 = k) := by
  unfold KV at r
  induction r with
  | nil => rfl
  | cons h t ih => rw [List.any_cons, List.any_cons, ih, h.1]
theorem KV.repl {kvs : List (κ × V)} {vs : List (κ × Value)} (r : KV kvs vs) (k : κ) {y : V} {u : Value} (ry : RelV y u) :
    KV (kvs.map fun kv => if kv.1 = k then (kv.1, y) else kv) (vs.map fun kv => if kv.1 = k then (kv.1, u) else kv) := by
  unfold KV at r ⊢
  induction r with
  | nil => exact .nil
  | @cons p q ps qs h t ih =>
    rw [List.map_cons, List.map_cons]
    refine .cons ?_ ih
    obtain ⟨h1, h2⟩ := h
    by_cases e : p.1 = k
    · rw [if_pos e, if_pos (h1.symm.trans e)]; exact ⟨h1, ry⟩
    · rw [if_neg e, if_neg (fun z => e (h1.trans z))]; exact ⟨h1, h2⟩
theorem KV.put {kvs : List (κ × V)} {vs : List (κ × Value)} (r : KV kvs vs) (k : κ) {y : V} {u : Value} (ry : RelV y u) : KV (putK kvs k y) (stored vs k u) := by
  unfold putK stored
  rw [r.any k]
  by_cases e : (vs.any fun kv => decide (kv.1 = k)) = true
  · rw [if_pos e, if_pos e]; exact r.repl k ry
  · rw [if_neg e, if_neg e]; exact Paired.snoc r ⟨rfl, ry⟩
theorem KV.drop {kvs : List (κ × V)} {vs : List (κ × Value)} (r : KV kvs vs) (k : κ) : KV (dropK kvs k) (without vs k) := by
  unfold KV at r ⊢
  unfold dropK without
  induction r with
  | nil => exact .nil
  | @cons p q ps qs h t ih =>
    obtain ⟨h1, h2⟩ := h
    rw [List.filter_cons, List.filter_cons]
    by_cases e : p.1 = k
    · have a : ¬ decide (p.1 ≠ k) = true := by simp [e]
      have b : ¬ decide (q.1 ≠ k) = true := by simp [h1.symm.trans e]
      rw [if_neg a, if_neg b]; exact ih
    · have e' : ¬ q.1 = k := fun z => e (h1.trans z)
      have a : decide (p.1 ≠ k) = true := by simp [e]
      have b : decide (q.1 ≠ k) = true := by simp [e']
      rw [if_pos a, if_pos b]; exact .cons ⟨h1, h2⟩ ih
theorem KV.keys {kvs : List (κ × V)} {vs : List (κ × Value)} (r : KV kvs vs) : kvs.map (·.1) = vs.map (·.1) := by
  unfold KV at r
  induction r with
  | nil => rfl
  | cons h t ih => rw [List.map_cons, List.map_cons, ih, h.1]
theorem KV.length {kvs : List (κ × V)} {vs : List (κ × Value)} (r : KV kvs vs) : kvs.length = vs.length := Paired.length r
theorem dropK_le (kvs : List (κ × V)) (k : κ) : (dropK kvs k).length ≤ kvs.length := List.length_filter_le _ _
end
theorem kV_is {P : Program} {w : World} {k : Key} {u : Value} (r : RelV (kV k) u) : (mixKind P w).is k u = true := by
  cases k with
  | inl i => obtain ⟨t, e⟩ := (show ∃ t, u = Value.int i t from r); subst e; exact mixKind_int P w i t
  | inr x => obtain ⟨t, e⟩ := (show ∃ t, u = Value.str x t from r); subst e; exact mixKind_str P w x t
theorem kV_inj {a b : Key} (e : kV a = kV b) : a = b := by
  cases a with
  | inl i => cases b with
    | inl j => have e' : V.int i = V.int j := e; injection e' with e'; rw [e']
    | inr y => exact nomatch (show V.int i = V.str y from e)
  | inr x => cases b with
    | inl j => exact nomatch (show V.str x = V.int j from e)
    | inr y => have e' : V.str x = V.str y := e; injection e' with e'; rw [e']
theorem kVs_inj : ∀ {a b : List Key}, a.map kV = b.map kV → a = b
  | [], [], _ => rfl
  | [], _ :: _, e => by simp at e
  | _ :: _, [], e => by simp at e
  | x :: xs, y :: ys, e => by
    rw [List.map_cons, List.map_cons] at e
    injection e with e1 e2
    rw [kV_inj e1, kVs_inj e2]
theorem items_are {P : Program} {w : World} : ∀ {ks : List Key} {us : List Value}, Vals (ks.map kV) us → ItemsAre (mixKind P w) ks us
  | [], _, r => by rw [List.map_nil] at r; cases r; exact .nil
  | k :: ks, _, r => by
    rw [List.map_cons] at r
    cases r with
    | cons h t => exact .cons (kV_is h) (items_are t)
abbrev KT (H : Hp) : List (List Key × V) → List (List Key × Addr × Value) → Prop := Paired fun p q => p.1 = q.1 ∧ H q.2.1 = some (.tup (p.1.map kV)) ∧ RelV p.2 q.2.2
theorem KT.val {H : Hp} {kvs : List (List Key × V)} {xs : List (List Key × Addr × Value)} (r : KT H kvs xs) (k : List Key) : RelO (valV kvs k) ((atKey xs k).map (·.2)) := by
  induction r with
  | nil => exact True.intro
  | @cons p q ps qs h t ih =>
    obtain ⟨h1, _, h2⟩ := h
    by_cases e : p.1 = k
    · have e' : q.1 = k := h1.symm.trans e
      have b : atKey (q :: qs) k = some q.2 := by simp [atKey, List.find?_cons, e']
      rw [valV_pos e, b]; exact h2
    · have e' : ¬ q.1 = k := fun z => e (h1.trans z)
      have b : atKey (q :: qs) k = atKey qs k := by simp [atKey, List.find?_cons, e']
      rw [valV_neg e, b]; exact ih
theorem KT.repl {H : Hp} {kvs : List (List Key × V)} {xs : List (List Key × Addr × Value)} (r : KT H kvs xs) (k : List Key) {y : V} {u : Value} (ry : RelV y u) :
    KT H (kvs.map fun kv => if kv.1 = k then (kv.1, y) else kv) (xs.map (putAt k u)) := by
  induction r with
  | nil => exact .nil
  | @cons p q ps qs h t ih =>
    rw [List.map_cons, List.map_cons]
    refine .cons ?_ ih
    obtain ⟨h1, h2, h3⟩ := h
    unfold putAt
    by_cases e : p.1 = k
    · rw [if_pos e, if_pos (h1.symm.trans e)]; exact ⟨h1, h2, ry⟩
    · rw [if_neg e, if_neg (fun z => e (h1.trans z))]; exact ⟨h1, h2, h3⟩
theorem KT.put {H : Hp} {kvs : List (List Key × V)} {xs : List (List Key × Addr × Value)} (r : KT H kvs xs) (k : List Key) {b : Addr} {y : V} {u : Value} (hb : H b = some (.tup (k.map kV))) (ry : RelV y u) :
    KT H (putK kvs k y) (storedH xs k b u) := by
  have e : (kvs.any fun kv => decide (kv.1 = k)) = (atKey xs k).isSome := by
    rw [valV_any, (r.val k).isSome_eq, Option.isSome_map]
  unfold putK storedH
  rw [e]
  by_cases q : (atKey xs k).isSome = true
  · rw [if_pos q, if_pos q]; exact r.repl k ry
  · rw [if_neg q, if_neg q]; exact Paired.snoc r ⟨rfl, hb, ry⟩
theorem KT.keeps {H H' : Hp} {kvs : List (List Key × V)} {xs : List (List Key × Addr × Value)} (r : KT H kvs xs) (ht : ∀ b ys, H b = some (.tup ys) → H' b = some (.tup ys)) : KT H' kvs xs :=
  Paired.mapP r fun _ _ z => ⟨z.1, ht _ _ z.2.1, z.2.2⟩
section
variable {P : Program} {w : World} {H : Hp} {h : Heap} {a : Addr}
theorem rd_of {u : HO} (ok : HOk P w H h) (e : Rd H a u) : ObjOk P w H h a u := e.ok ok
theorem dk_rd {kvs : List (Key × V)} (ok : HOk P w H h) (e : Rd H a (.dK kvs)) : kvs.length ≤ sizeLine ∧ (a == sysModules) = false ∧ ∃ vs, KV kvs vs ∧ h.DictOf (mixKind P w) a vs :=
  show ObjOk P w H h a (.dK kvs) from rd_of ok e
theorem dk_of {kvs : List (Key × V)} (ok : HOk P w H h) (e : H a = some (.dK kvs)) : kvs.length ≤ sizeLine ∧ (a == sysModules) = false ∧ ∃ vs, KV kvs vs ∧ h.DictOf (mixKind P w) a vs := dk_rd ok (.inl e)
theorem key_of {ks : List Key} (ok : HOk P w H h) (e : H a = some (.tup (ks.map kV))) : (tupleKind (mixKind P w)).is h ks a := by
  obtain ⟨_, its, r, o, h1, h2, n, h3⟩ := (show ObjOk P w H h a (.tup (ks.map kV)) from ok a _ e)
  exact ⟨o, its.toArray, n, h1, h2, h3, by simpa using items_are r⟩
theorem dt_rd {kvs : List (List Key × V)} (ok : HOk P w H h) (e : Rd H a (.dT kvs)) : kvs.length ≤ sizeLine ∧ (a == sysModules) = false ∧
    ∃ xs, KT H kvs xs ∧ h.DictOfH (tupleKind (mixKind P w)) a xs := by
  obtain ⟨z, y, xs, r, o, es, ep, h1, h2, h3, h4, h5⟩ := (show ObjOk P w H h a (.dT kvs) from rd_of ok e)
  refine ⟨z, y, xs, r, o, es, ep, h1, h2, h3, h4, fun x hx => ?_, h5⟩
  have all : ∀ {l : List (List Key × V)} {m : List (List Key × Addr × Value)}, KT H l m → ∀ x ∈ m, (tupleKind (mixKind P w)).is h x.1 x.2.1 := by
    intro l m q
    induction q with
    | nil => intro x hx; exact nomatch hx
    | @cons p q ps qs hq t ih =>
      intro x hx
      rcases List.mem_cons.mp hx with e | hx
      · subst e
        exact key_of ok (by rw [← hq.1]; exact hq.2.1)
      · exact ih x hx
  exact all r x hx
theorem dt_of {kvs : List (List Key × V)} (ok : HOk P w H h) (e : H a = some (.dT kvs)) : kvs.length ≤ sizeLine ∧ (a == sysModules) = false ∧
    ∃ xs, KT H kvs xs ∧ h.DictOfH (tupleKind (mixKind P w)) a xs := dt_rd ok (.inl e)
end
def DGet (H : Hp) (a : Addr) (y : V) (r : Option V) : Prop :=
  (∃ kvs k, Rd H a (.dK kvs) ∧ y = kV k ∧ r = valV kvs k) ∨ ∃ kvs k b, Rd H a (.dT kvs) ∧ y = .ref b ∧ H b = some (.tup (k.map kV)) ∧ r = valV kvs k
def DPut (H : Hp) (a : Addr) (y v : V) (H' : Hp) : Prop :=
  (∃ kvs k, H a = some (.dK kvs) ∧ y = kV k ∧ kvs.length < sizeLine ∧ H' = upd H a (.dK (putK kvs k v))) ∨
  ∃ kvs k b, H a = some (.dT kvs) ∧ y = .ref b ∧ H b = some (.tup (k.map kV)) ∧ kvs.length < sizeLine ∧ H' = upd H a (.dT (putK kvs k v))
theorem DGet.k {H : Hp} {a : Addr} {kvs : List (Key × V)} {k : Key} (e : H a = some (.dK kvs)) : DGet H a (kV k) (valV kvs k) := .inl ⟨kvs, k, .inl e, rfl, rfl⟩
theorem DGet.t {H : Hp} {a b : Addr} {kvs : List (List Key × V)} {k : List Key} (e : H a = some (.dT kvs)) (eb : H b = some (.tup (k.map kV))) : DGet H a (.ref b) (valV kvs k) := .inr ⟨kvs, k, b, .inl e, rfl, eb, rfl⟩
theorem DPut.k {H : Hp} {a : Addr} {kvs : List (Key × V)} {k : Key} {v : V} (e : H a = some (.dK kvs)) (hl : kvs.length < sizeLine) : DPut H a (kV k) v (upd H a (.dK (putK kvs k v))) := .inl ⟨kvs, k, e, rfl, hl, rfl⟩
theorem DPut.t {H : Hp} {a b : Addr} {kvs : List (List Key × V)} {k : List Key} {v : V} (e : H a = some (.dT kvs)) (eb : H b = some (.tup (k.map kV))) (hl : kvs.length < sizeLine) :
    DPut H a (.ref b) v (upd H a (.dT (putK kvs k v))) := .inr ⟨kvs, k, b, e, rfl, eb, hl, rfl⟩
section
variable {X : Cx} {pins : List (Addr × Obj)} {σ : St} {H : Hp} {s : Shared} {a : Addr} {y v : V} {u r : Value} {o : Option V} {A : Around} {E : Value → Shared → Prop}
theorem Inv.big (I : Inv X pins σ H s) : sysModules < s.heap.objs.size := by
  have h : mainGlobals < s.heap.objs.size := (I.mod.glob.keeps I.bk).lt
  exact Nat.lt_trans (by decide) h
theorem d_getItem {Q : Value → Shared → Prop} (hu : A.units + 1 < cLine) (I : Inv X pins σ H s) (g : DGet H a y (some v)) (ry : RelV y u) (h : ∀ w' s', Inv X pins σ H s' → RelV v w' → Q w' s') :
    wpAny (model X.prog X.w) A (getItem (.ref a) u) Q E s := by
  rcases g with ⟨kvs, k, e, ey, l⟩ | ⟨kvs, k, b, e, ey, eb, l⟩
  · subst ey
    obtain ⟨z, hd, vs, rel, dd⟩ := dk_rd I.hok e
    obtain ⟨w', hw, rw'⟩ := RelO.some_of (v := v) (o := valueAt vs k) (by rw [l]; exact rel.val k)
    exact wpAny_getItem_of (kV_is ry) dd.mapOf hw (h w' _ (I.tok _) rw')
  · subst ey
    cases (show u = Value.ref b from ry)
    obtain ⟨z, hd, xs, rel, dd⟩ := dt_rd I.hok e
    obtain ⟨w', hw, rw'⟩ := RelO.some_of (v := v) (o := (atKey xs k).map (·.2)) (by rw [l]; exact rel.val k)
    obtain ⟨p, hp, hp2⟩ := Option.map_eq_some_iff.mp hw
    refine wpAny_getItem_heap (tupleKind_room_in1 hu) (key_of I.hok eb) dd hp ?_
    rw [hp2]
    exact h w' _ (I.tok _) rw'
theorem d_in {Q : Value → Shared → Prop} (hu : A.units + 1 < cLine) (I : Inv X pins σ H s) (g : DGet H a y o) (ry : RelV y u) (h : ∀ s', Inv X pins σ H s' → Q (.bool o.isSome) s') :
    wpAny (model X.prog X.w) A (compareOp .In u (.ref a)) Q E s := by
  rcases g with ⟨kvs, k, e, ey, l⟩ | ⟨kvs, k, b, e, ey, eb, l⟩
  · subst ey
    obtain ⟨z, hd, vs, rel, dd⟩ := dk_rd I.hok e
    refine wpAny_in_of (kV_is ry) hd dd.mapOf ?_
    rw [← (rel.val k).isSome_eq, ← l]
    exact h _ (I.tok _)
  · subst ey
    cases (show u = Value.ref b from ry)
    obtain ⟨z, hd, xs, rel, dd⟩ := dt_rd I.hok e
    refine wpAny_in_heap (tupleKind_room_in1 hu) (key_of I.hok eb) hd dd ?_
    have q := (rel.val k).isSome_eq
    rw [Option.isSome_map] at q
    rw [← q, ← l]
    exact h _ (I.tok _)
theorem d_notIn {Q : Value → Shared → Prop} (hu : A.units + 1 < cLine) (I : Inv X pins σ H s) (g : DGet H a y o) (ry : RelV y u) (h : ∀ s', Inv X pins σ H s' → Q (.bool (!o.isSome)) s') :
    wpAny (model X.prog X.w) A (compareOp .NotIn u (.ref a)) Q E s := by
  rcases g with ⟨kvs, k, e, ey, l⟩ | ⟨kvs, k, b, e, ey, eb, l⟩
  · subst ey
    obtain ⟨z, hd, vs, rel, dd⟩ := dk_rd I.hok e
    refine wpAny_notIn_of (kV_is ry) hd dd.mapOf ?_
    rw [← (rel.val k).isSome_eq, ← l]
    exact h _ (I.tok _)
  · subst ey
    cases (show u = Value.ref b from ry)
    obtain ⟨z, hd, xs, rel, dd⟩ := dt_rd I.hok e
    refine wpAny_notIn_heap (tupleKind_room_in1 hu) (key_of I.hok eb) hd dd ?_
    have q := (rel.val k).isSome_eq
    rw [Option.isSome_map] at q
    rw [← q, ← l]
    exact h _ (I.tok _)
theorem d_write {h' : Heap} {t' : Nat} {ob : HO} (I : Inv X pins σ H s) (mu : Mut (H a)) (hs : Heap.SameBut a s.heap h') (he : ∃ q, h'.get? a = some q) (new : ObjOk X.prog X.w (upd H a ob) h' a ob) :
    Inv X pins σ (upd H a ob) { s with heap := h', toks := t' } :=
  I.write (x := a) (e := a) mu (.inl rfl) (fun b q hb z => (hs.2 b hb).trans z) he new
theorem dk_new {P : Program} {w : World} {H' : Hp} {h' : Heap} {kvs : List (Key × V)} {vs : List (Key × Value)} (z : kvs.length ≤ sizeLine) (hd : (a == sysModules) = false) (rel : KV kvs vs) (dd : h'.DictOf (mixKind P w) a vs) :
    ObjOk P w H' h' a (.dK kvs) := ⟨z, hd, vs, rel, dd⟩
theorem d_setItem {H' : Hp} {Q : Unit → Shared → Prop} (hu : A.units + 1 < cLine) (I : Inv X pins σ H s) (g : DPut H a y v H') (ry : RelV y u) (rv : RelV v r) (h : ∀ s', Inv X pins σ H' s' → Q () s') :
    wpAny (model X.prog X.w) A (setItem (.ref a) u r) Q E s := by
  rcases g with ⟨kvs, k, e, ey, l, eH⟩ | ⟨kvs, k, b, e, ey, eb, l, eH⟩
  · subst ey eH
    obtain ⟨z, hd, vs, rel, dd⟩ := dk_of I.hok e
    have hz : vs.length ≤ sizeLine := by rw [← rel.length]; exact z
    have hl : (putK kvs k v).length ≤ sizeLine := by have := length_putK kvs k v; omega
    refine wpAny_setItem_pairs (hsz := hz) (kV_is ry) dd fun h' dd' hs => h _ ?_
    have he : ∃ q, h'.get? a = some q := let ⟨q, _, _, hq, _⟩ := dd'; ⟨q, hq⟩
    exact d_write I (by rw [e]; exact True.intro) hs he (dk_new hl hd (rel.put k rv) dd')
  · subst ey eH
    cases (show u = Value.ref b from ry)
    obtain ⟨z, hd, xs, rel, dd⟩ := dt_of I.hok e
    have hz : xs.length ≤ sizeLine := by rw [← Paired.length rel]; exact z
    have hl : (putK kvs k v).length ≤ sizeLine := by have := length_putK kvs k v; omega
    refine wpAny_setItem_heap (hsz := hz) (tupleKind_room_in1 hu) (key_of I.hok eb) dd fun h' dd' hs => h _ ?_
    obtain ⟨q, es, ep, hq, h2, h3, h4, _, h5⟩ := dd'
    refine d_write I (by rw [e]; exact True.intro) hs ⟨q, hq⟩ ⟨hl, hd, _, (rel.put k eb rv).keeps fun c ys ec => ?_, q, es, ep, hq, h2, h3, h4, h5⟩
    rw [upd_ne (ne_of ec e (fun z => nomatch z))]
    exact ec
end
section
variable {X : Cx} {pins : List (Addr × Obj)} {σ : St} {H : Hp} {s : Shared} {a : Addr} {kvs : List (Key × V)} {k : Key} {u : Value} {A : Around} {E : Value → Shared → Prop}
theorem d_delItem {Q : Unit → Shared → Prop} (I : Inv X pins σ H s) (e : H a = some (.dK kvs)) (ry : RelV (kV k) u) (l : (valV kvs k).isSome = true) (h : ∀ s', Inv X pins σ (upd H a (.dK (dropK kvs k))) s' → Q () s') :
    wpAny (model X.prog X.w) A (delItem (.ref a) u) Q E s := by
  obtain ⟨z, hd, vs, rel, dd⟩ := dk_of I.hok e
  refine wpAny_delItem_slot dd.typeIs (by decide) PySem.F.slot_dict_delitem
    (call_meetsIn PySem.F.slot_dict_delitem dd.typeIs PySem.F.entry_dict_delitem (PySem.F.args_dict_delitem_2 _ _) (meets_dict_delitem_pairs (mixKind X.prog X.w) a (kV_is ry)) ⟨vs, dd, by rw [← rel.length]; exact z, by rw [← (rel.val k).isSome_eq]; exact l, fun h' dd' hs => h _ ?_⟩)
  have he : ∃ q, h'.get? a = some q := let ⟨q, _, _, hq, _⟩ := dd'; ⟨q, hq⟩
  exact d_write I (by rw [e]; exact True.intro) hs he (dk_new (Nat.le_trans (dropK_le kvs k) z) hd (rel.drop k) dd')
theorem d_pop {v : V} {more : List Value} {Q : Value → Shared → Prop} (I : Inv X pins σ H s) (e : H a = some (.dK kvs)) (ry : RelV (kV k) u) (l : valV kvs k = some v) (hm : more = [] ∨ ∃ x, more = [x])
    (h : ∀ w' s', Inv X pins σ (upd H a (.dK (dropK kvs k))) s' → RelV v w' → Q w' s') : wpAny (model X.prog X.w) A (call (.builtin "dict.pop") (.ref a :: u :: more)) Q E s := by
  obtain ⟨z, hd, vs, rel, dd⟩ := dk_of I.hok e
  obtain ⟨w', hw, rw'⟩ := RelO.some_of (v := v) (o := valueAt vs k) (by rw [← l]; exact rel.val k)
  have hp : (keyPart u).isSome = true := by
    cases k with
    | inl i => obtain ⟨t, q⟩ := (show ∃ t, u = Value.int i t from ry); subst q; rfl
    | inr x => obtain ⟨t, q⟩ := (show ∃ t, u = Value.str x t from ry); subst q; rfl
  have ha : argsOk "dict.pop" ⟨.ref a :: u :: more, []⟩ := by
    rcases hm with q | ⟨x, q⟩
    · subst q; exact PySem.F.args_dict_pop_2 _ _
    · subst q; exact PySem.F.args_dict_pop_3 _ _ _
  refine call_meetsIn PySem.F.slot_dict_pop dd.typeIs PySem.F.entry_dict_pop ha (meets_dict_pop_there (mixKind X.prog X.w) a (kV_is ry) more hm hp)
    ⟨vs, w', dd, by rw [← rel.length]; exact z, hw, fun h' dd' hs => h w' _ ?_ rw'⟩
  have he : ∃ q, h'.get? a = some q := let ⟨q, _, _, hq, _⟩ := dd'; ⟨q, hq⟩
  exact d_write I (by rw [e]; exact True.intro) hs he (dk_new (Nat.le_trans (dropK_le kvs k) z) hd (rel.drop k) dd')
theorem d_popD {r : Value} {Q : Value → Shared → Prop} (I : Inv X pins σ H s) (e : H a = some (.dK kvs)) (ry : RelV (kV k) u) (l : valV kvs k = none) (h : ∀ s', Inv X pins σ H s' → Q r s') :
    wpAny (model X.prog X.w) A (call (.builtin "dict.pop") [.ref a, u, r]) Q E s := by
  obtain ⟨z, hd, vs, rel, dd⟩ := dk_of I.hok e
  have hn : valueAt vs k = none := RelO.none_of (by rw [← l]; exact rel.val k)
  have hp : (keyPart u).isSome = true := by
    cases k with
    | inl i => obtain ⟨t, q⟩ := (show ∃ t, u = Value.int i t from ry); subst q; rfl
    | inr x => obtain ⟨t, q⟩ := (show ∃ t, u = Value.str x t from ry); subst q; rfl
  exact call_meetsIn PySem.F.slot_dict_pop dd.typeIs PySem.F.entry_dict_pop (PySem.F.args_dict_pop_3 _ _ _) (meets_dict_pop_default (mixKind X.prog X.w) a (kV_is ry) hd hp r) ⟨vs, dd, hn, h _ (I.tok _)⟩
theorem d_clear {Q : Value → Shared → Prop} (I : Inv X pins σ H s) (e : H a = some (.dK kvs)) (h : ∀ s', Inv X pins σ (upd H a (.dK [])) s' → Q .none s') : wpAny (model X.prog X.w) A (call (.builtin "dict.clear") [.ref a]) Q E s := by
  obtain ⟨z, hd, vs, rel, dd⟩ := dk_of I.hok e
  refine call_meetsIn PySem.F.slot_dict_clear dd.typeIs PySem.F.entry_dict_clear (PySem.F.args_dict_clear_1 _) (meets_dict_clear (mixKind X.prog X.w) a) ⟨vs, dd, by rw [← rel.length]; exact z, fun h' dd' hs => h _ ?_⟩
  have he : ∃ q, h'.get? a = some q := let ⟨q, _, _, hq, _⟩ := dd'; ⟨q, hq⟩
  exact d_write (t' := s.toks) I (by rw [e]; exact True.intro) hs he (dk_new (Nat.zero_le _) hd .nil dd')
theorem d_len {Q : Value → Shared → Prop} (I : Inv X pins σ H s) (e : Rd H a (.dK kvs)) (h : ∀ t s', Inv X pins σ H s' → Q (.int kvs.length t) s') : wpAny (model X.prog X.w) A (call (.builtin "len") [.ref a]) Q E s := by
  obtain ⟨z, hd, vs, rel, dd⟩ := dk_rd I.hok e
  refine call_len_dict hd dd (by rw [← rel.length]; rw [sizeLine_eq] at z; omega) ?_
  rw [← rel.length]
  exact h _ _ (I.tok _)
theorem d_truth {Q : Bool → Shared → Prop} (I : Inv X pins σ H s) (e : Rd H a (.dK kvs)) (h : ∀ s', Inv X pins σ H s' → Q (!kvs.isEmpty) s') : wpAny (model X.prog X.w) A (truthy (.ref a)) Q E s := by
  obtain ⟨z, hd, vs, rel, dd⟩ := dk_rd I.hok e
  refine wpAny_truthy_dict hd dd (by rw [← rel.length]; rw [sizeLine_eq] at z; omega) ?_
  have q : kvs.isEmpty = vs.isEmpty := by cases rel <;> rfl
  rw [← q]
  exact h _ (I.tok _)
end
def NoSl (i : Expr) : Prop := ∀ ov iv, subscripted i false ov iv = operate [ov, iv] (getItem ov iv)
theorem subD_of {prog : Program} {w : World} {A : Around} {E : Value → Shared → Prop} {s : Shared} {env : Env} {value slice : Expr} {pos : Pos} {T id : String} {Q : Value → Shared → Prop}
    (hl : typeLookup (.type T) "__getitem__" = pure (some (.builtin id))) (hs : NoSl slice)
    (h : wpAny (model prog w) A (eval value env) (fun o s₁ => wpAny (model prog w) A (eval slice env) (fun i s₂ => s₂.TypeIs o T ∧ wpAny (model prog w) A (getItem o i) Q E s₂) E s₁) E s) :
    wpAny (model prog w) A (eval (.Subscript value slice pos) env) Q E s := by
  refine Subscript_ (wpAny_mono h (fun o s₁ h₁ => wpAny_mono h₁ (fun i s₂ h₂ => ?_) fun _ _ x => x) fun _ _ x => x)
  obtain ⟨hT, h₂⟩ := h₂
  unfold subscriptTail
  refine wpAny_bind ?_
  rw [getitemInPython_of_ne hT.not_modules]
  refine wpAny_bind (wpAny_specialOf hT hl ?_)
  have fin : wpAny (model prog w) A (subscripted slice false o i) (fun r s₃ => wpAny (model prog w) A (letTemporaryGo value o r >>= fun _ => pure r) Q E s₃) E s₂ := by
    rw [hs o i]
    exact wpAny_operating (wpAny_mono h₂ (fun r s₃ h₃ => wpAny_bind (wpAny_letTemporaryGo (wpAny_pure h₃))) fun _ _ x => x)
  first
    | exact wpAny_pure (wpAny_bind fin)
    | exact wpAny_bind (wpAny_pure (wpAny_bind fin))
    | exact wpAny_bind fin
theorem dict_typeIs {X : Cx} {pins : List (Addr × Obj)} {σ : St} {H : Hp} {s : Shared} {a : Addr} {y : V} {o : Option V} (I : Inv X pins σ H s) (g : DGet H a y o) : s.TypeIs (.ref a) "dict" := by
  rcases g with ⟨kvs, k, e, _, _⟩ | ⟨kvs, k, b, e, _, _, _⟩
  · obtain ⟨_, _, vs, _, dd⟩ := dk_rd I.hok e
    exact dd.typeIs
  · obtain ⟨_, _, xs, _, dd⟩ := dt_rd I.hok e
    exact dd.typeIs
theorem dict_noDict {X : Cx} {pins : List (Addr × Obj)} {σ : St} {H : Hp} {s : Shared} {a : Addr} {y : V} {o : Option V} (I : Inv X pins σ H s) (g : DGet H a y o) :
    ∀ b, Value.ref a = .ref b → ∃ ob, s.heap.get? b = some ob ∧ ob.dict = none := fun b q => by
  cases q
  rcases g with ⟨kvs, k, e, _, _⟩ | ⟨kvs, k, b, e, _, _, _⟩
  · obtain ⟨_, _, vs, _, ob, _, _, h1, h2, _⟩ := dk_rd I.hok e
    exact ⟨ob, h1, h2.2.1⟩
  · obtain ⟨_, _, xs, _, ob, _, _, h1, h2, _⟩ := dt_rd I.hok e
    exact ⟨ob, h1, h2.2.1⟩
def tDGet (td ty : TE) : TE := fun σ H Q => td σ H fun x H1 => ty σ H1 fun y H2 => ∃ a v, x = .ref a ∧ DGet H2 a y (some v) ∧ Q v H2
def tDIn (ty td : TE) : TE := fun σ H Q => ty σ H fun y H1 => td σ H1 fun x H2 => ∃ a o, x = .ref a ∧ DGet H2 a y o ∧ Q (.bl o.isSome) H2
def tDNotIn (ty td : TE) : TE := fun σ H Q => ty σ H fun y H1 => td σ H1 fun x H2 => ∃ a o, x = .ref a ∧ DGet H2 a y o ∧ Q (.bl (!o.isSome)) H2
def sDPut (td ty tv : TE) : TS := fun D σ H => tv σ H fun v H1 => td σ H1 fun x H2 => ty σ H2 fun y H3 => ∃ a H4, x = .ref a ∧ DPut H3 a y v H4 ∧ D.nx σ H4
def sDAug (td ty tv : TE) (rd : V → V → Hp → VK → Prop) : TS := fun D σ H => td σ H fun x H1 => ty σ H1 fun y H2 => ∃ a v, x = .ref a ∧ DGet H2 a y (some v) ∧
  tv σ H2 fun y2 H3 => rd v y2 H3 fun z H4 => ∃ H5, DPut H4 a y z H5 ∧ D.nx σ H5
def sDDel (td ty : TE) : TS := fun D σ H => td σ H fun x H1 => ty σ H1 fun y H2 => ∃ a kvs k, x = .ref a ∧ H2 a = some (.dK kvs) ∧ y = kV k ∧ (valV kvs k).isSome = true ∧ D.nx σ (upd H2 a (.dK (dropK kvs k)))
section
variable {X : Cx} {o i e value : Expr} {pos pos' tpos : Pos} {td ty tv : TE}
theorem pe_dget (hu : X.A.units + 1 < cLine) (ho : PE X o td) (hi : PE X i ty) (hs : NoSl i) : PE X (.Subscript o i pos) (tDGet td ty) := by
  intro pins s σ H Q I h
  refine subD_of PySem.F.slot_dict_getitem.lookup hs (thn (ho pins s σ H _ I h) fun u s1 ⟨x, H1, I1, rx, q1⟩ => thn (hi pins s1 σ H1 _ I1 q1) fun iv s2 ⟨y, H2, I2, ry, a, v, ex, g, q2⟩ => ?_)
  subst ex
  obtain rfl : u = Value.ref a := rx
  exact ⟨dict_typeIs I2 g, d_getItem hu I2 g ry fun w' s3 I3 rw' => ⟨v, H2, I3, rw', q2⟩⟩
theorem pc_din (hu : X.A.units + 1 < cLine) (hi : PE X i ty) (ho : PE X o td) : PC X .In i o (tDIn ty td) := by
  intro pins s σ H Q I h
  refine thn (hi pins s σ H _ I h) fun iv s1 ⟨y, H1, I1, ry, q1⟩ => thn (ho pins s1 σ H1 _ I1 q1) fun u s2 ⟨x, H2, I2, rx, a, ov, ex, g, q2⟩ => ?_
  subst ex
  obtain rfl : u = Value.ref a := rx
  exact d_in hu I2 g ry fun s3 I3 => ⟨.bl ov.isSome, H2, I3, rfl, q2⟩
theorem pc_dnotin (hu : X.A.units + 1 < cLine) (hi : PE X i ty) (ho : PE X o td) : PC X .NotIn i o (tDNotIn ty td) := by
  intro pins s σ H Q I h
  refine thn (hi pins s σ H _ I h) fun iv s1 ⟨y, H1, I1, ry, q1⟩ => thn (ho pins s1 σ H1 _ I1 q1) fun u s2 ⟨x, H2, I2, rx, a, ov, ex, g, q2⟩ => ?_
  subst ex
  obtain rfl : u = Value.ref a := rx
  exact d_notIn hu I2 g ry fun s3 I3 => ⟨.bl (!ov.isSome), H2, I3, rfl, q2⟩
theorem ps_dput (hu : X.A.units + 1 < cLine) (ho : PE X o td) (hi : PE X i ty) (hv : PE X value tv) (hs : swapsWith value (some (.Subscript o i pos')) pos.line X.env = pure false) :
    PS X (.Assign [.Subscript o i pos'] value pos) (sDPut td ty tv) := by
  intro pins s σ H D I h
  refine wpAny_Assign_Subscript (thn (hv pins s σ H _ I h) fun r s1 ⟨v, H1, I1, rv, q1⟩ => thn (ho pins s1 σ H1 _ I1 q1) fun u s2 ⟨x, H2, I2, rx, q2⟩ => thn (hi pins s2 σ H2 _ I2 q2) fun iv s3 ⟨y, H3, I3, ry, a, H4, ex, g, q3⟩ => ?_) hs
  subst ex
  obtain rfl : u = Value.ref a := rx
  exact d_setItem hu I3 g ry rv fun s4 I4 => ⟨σ, H4, I4, q3⟩
theorem ps_daug {op : Operator} {rd : V → V → Hp → VK → Prop} (hu : X.A.units + 1 < cLine) (ho : PE X o td) (hi : PE X i ty) (hv : PE X value tv) (hop : InOp X op rd)
    (ha : ∀ ov iv new, augStore i ov iv new = (do holding [new, ov, iv] (setItem ov iv new); release [new, ov, iv] []; pure .next)) : PS X (.AugAssign (.Subscript o i tpos) op value pos) (sDAug td ty tv rd) := by
  intro pins s σ H D I h
  refine wpAny_AugAssign_SubscriptAny (thn (ho pins s σ H _ I h) fun u s1 ⟨x, H1, I1, rx, q1⟩ => thn (hi pins s1 σ H1 _ I1 q1) fun iv s2 ⟨y, H2, I2, ry, a, v, ex, g, q2⟩ => ?_) ha
  subst ex
  obtain rfl : u = Value.ref a := rx
  refine d_getItem hu I2 g ry fun w' s3 I3 rw' => thn (hv pins s3 σ H2 _ I3 q2) fun w2 s4 ⟨y2, H3, I4, ry2, q3⟩ => thn (hop pins s4 σ H3 v y2 w' w2 _ I4 rw' ry2 q3) fun w3 s5 ⟨z, H4, I5, rz, H5, g5, q4⟩ => ?_
  exact d_setItem hu I5 g5 ry rz fun s6 I6 => ⟨σ, H5, I6, q4⟩
theorem ps_ddel (ho : PE X o td) (hi : PE X i ty) : PS X (.Delete [.Subscript o i tpos] pos) (sDDel td ty) := by
  intro pins s σ H D I h
  refine wpAny_Delete (wpAny_deleteEach_cons (wpAny_delete_Subscript (thn (ho pins s σ H _ I h) fun u s1 ⟨x, H1, I1, rx, q1⟩ => thn (hi pins s1 σ H1 _ I1 q1) fun iv s2 ⟨y, H2, I2, ry, a, kvs, k, ex, e, ey, l, q2⟩ => ?_)))
  subst ex ey
  obtain rfl : u = Value.ref a := rx
  exact d_delItem I2 e ry l fun s3 I3 => wpAny_deleteEach_nil ⟨σ, _, I3, q2⟩
end
theorem dk_empty {P : Program} {w : World} {H : Hp} (h : Heap) (hb : sysModules < h.objs.size) : ObjOk P w H (h.push { cls := .type "dict", data := .dict #[] }) h.objs.size (.dK []) :=
  ⟨Nat.zero_le _, beq_eq_false_iff_ne.mpr (Ne.symm (Nat.ne_of_lt hb)), [], .nil, Heap.DictOf.new h⟩
theorem dt_empty {P : Program} {w : World} {H : Hp} (h : Heap) (hb : sysModules < h.objs.size) : ObjOk P w H (h.push { cls := .type "dict", data := .dict #[] }) h.objs.size (.dT []) :=
  ⟨Nat.zero_le _, beq_eq_false_iff_ne.mpr (Ne.symm (Nat.ne_of_lt hb)), [], .nil, _, #[], 0, Heap.get?_push_size _ rfl, ⟨rfl, rfl, rfl⟩, rfl, rfl, List.nodup_nil⟩
def tDNewK : TE := fun _ H Q => ∀ p, H p = none → Q (.ref p) (upd H p (.dK []))
def tDNewT : TE := fun _ H Q => ∀ p, H p = none → Q (.ref p) (upd H p (.dT []))
section
variable {X : Cx} {pos : Pos}
theorem pe_dnewK : PE X (.Dict [] [] pos) tDNewK := fun pins s σ H Q I h =>
  wpAny_Dict_empty ⟨.ref s.heap.objs.size, _, I.laid (a := s.heap.objs.size) (o := .dK []) (t' := s.toks) (fun _ _ q => Heap.get?_push_of_some _ q) (Nat.le_refl _) (dk_empty s.heap I.big), rfl, h _ (I.hok.fresh (Nat.le_refl _))⟩
theorem pe_dnewT : PE X (.Dict [] [] pos) tDNewT := fun pins s σ H Q I h =>
  wpAny_Dict_empty ⟨.ref s.heap.objs.size, _, I.laid (a := s.heap.objs.size) (o := .dT []) (t' := s.toks) (fun _ _ q => Heap.get?_push_of_some _ q) (Nat.le_refl _) (dt_empty s.heap I.big), rfl, h _ (I.hok.fresh (Nat.le_refl _))⟩
end
def tPairs : List (TE × TE) → St → Hp → (List (V × V) → Hp → Prop) → Prop
  | [], _, H, Q => Q [] H
  | (tk, tv) :: r, σ, H, Q => tk σ H fun x H1 => tv σ H1 fun y H2 => tPairs r σ H2 fun ps H3 => Q ((x, y) :: ps) H3
abbrev VV : List (V × V) → List (Value × Value) → Prop := Paired fun p q => RelV p.1 q.1 ∧ RelV p.2 q.2
def PPs (X : Cx) (pos : Pos) (keys : List (Option Expr)) (values : List Expr) (trs : List (TE × TE)) : Prop :=
  ∀ (pins : List (Addr × Obj)) (s : Shared) (σ : St) (H : Hp) (Q : List (V × V) → Hp → Prop), Inv X pins σ H s → tPairs trs σ H Q →
    wpAny (model X.prog X.w) X.A (evalPairs (pairTrees keys values X.env pos)) (fun vs s' => ∃ ps H', Inv X pins σ H' s' ∧ VV ps vs ∧ Q ps H') X.xe s
theorem pps_nil {X : Cx} {pos : Pos} : PPs X pos [] [] [] := fun pins s σ H Q I h => pairTrees_nil_walk ⟨[], H, I, .nil, h⟩
theorem pps_cons {X : Cx} {pos : Pos} {k v : Expr} {ks : List (Option Expr)} {vs : List Expr} {tk tv : TE} {trs : List (TE × TE)} (hk : PE X k tk) (hv : PE X v tv) (hr : PPs X pos ks vs trs) :
    PPs X pos (some k :: ks) (v :: vs) ((tk, tv) :: trs) := fun pins s σ H Q I h =>
  pairTrees_cons_walk (thn (hk pins s σ H _ I h) fun u s1 ⟨x, H1, I1, rx, q1⟩ => thn (hv pins s1 σ H1 _ I1 q1) fun w2 s2 ⟨y, H2, I2, ry, q2⟩ =>
    thn (hr pins s2 σ H2 _ I2 q2) fun ws s3 ⟨ps, H3, I3, rel, q3⟩ => ⟨(x, y) :: ps, H3, I3, .cons ⟨rx, ry⟩ rel, q3⟩)
def mergeK (kvs more : List (Key × V)) : List (Key × V) := more.foldl (fun acc kv => putK acc kv.1 kv.2) kvs
theorem KV.merge : ∀ {more : List (Key × V)} {rs : List (Key × Value)} {kvs : List (Key × V)} {vs : List (Key × Value)}, KV more rs → KV kvs vs → KV (mergeK kvs more) (merged vs rs) := by
  intro more rs kvs vs r
  unfold KV at r
  induction r generalizing kvs vs with
  | nil => intro q; exact q
  | @cons p q ps qs h t ih =>
    intro r0
    have e : KV (putK kvs p.1 p.2) (stored vs q.1 q.2) := by
      have := r0.put p.1 h.2
      rw [← h.1]; exact this
    exact ih e
theorem length_mergeK : ∀ (more kvs : List (Key × V)), (mergeK kvs more).length ≤ kvs.length + more.length
  | [], kvs => by show kvs.length ≤ kvs.length + 0; omega
  | p :: r, kvs => by
    have h1 := length_mergeK r (putK kvs p.1 p.2)
    have h2 := length_putK kvs p.1 p.2
    show (mergeK (putK kvs p.1 p.2) r).length ≤ _
    rw [List.length_cons]; omega
theorem carries_of {P : Program} {w : World} : ∀ {kvs : List (Key × V)} {ws : List (Value × Value)}, VV (kvs.map fun kv => (kV kv.1, kv.2)) ws → ∃ rs, Carries (mixKind P w) ws rs ∧ KV kvs rs
  | [], _, r => by rw [List.map_nil] at r; cases r; exact ⟨[], True.intro, .nil⟩
  | p :: kvs, _, r => by
    rw [List.map_cons] at r
    cases r with
    | @cons a b as bs h t =>
      obtain ⟨rs, c, q⟩ := carries_of (P := P) (w := w) t
      obtain ⟨b1, b2⟩ := b
      exact ⟨(p.1, b2) :: rs, ⟨kV_is h.1, rfl, c⟩, .cons ⟨rfl, h.2⟩ q⟩
def tDisp (trs : List (TE × TE)) : TE := fun σ H Q => ∀ p, H p = none → tPairs trs σ (upd H p (.dK [])) fun ps H2 => H2 p = some (.dK []) ∧ ∃ kvs : List (Key × V), ps = kvs.map (fun kv => (kV kv.1, kv.2)) ∧ kvs.length ≤ 15 ∧ Q (.ref p) (upd H2 p (.dK (mergeK [] kvs)))
theorem pe_disp {X : Cx} {pos : Pos} {keys : List (Option Expr)} {values : List Expr} {trs : List (TE × TE)} (h : PPs X pos keys values trs) (hall : keys.all (·.isSome) = true) (hl : keys.length = values.length) (h0 : keys ≠ [])
    (h15 : keys.length ≤ 15) : PE X (.Dict keys values pos) (tDisp trs) := by
  intro pins s σ H Q I q
  have hn := I.hok.fresh (Nat.le_refl s.heap.objs.size)
  have I1 := I.laid (a := s.heap.objs.size) (o := .dK []) (h' := s.heap.push { cls := .type "dict", data := .dict #[] }) (t' := s.toks) (fun _ _ q => Heap.get?_push_of_some _ q) (Nat.le_refl _) (dk_empty s.heap I.big)
  refine wpAny_Dict_walk (knd := mixKind X.prog X.w) hall hl h0 h15 (thn (h pins _ σ _ _ I1 (q _ hn)) fun ws s2 ⟨ps, H2, I2, rel, e, kvs, ep, lk, q2⟩ => ?_)
  subst ep
  obtain ⟨rs, c, rk⟩ := carries_of (P := X.prog) (w := X.w) rel
  obtain ⟨z, hd, vs0, r0, dd⟩ := dk_of I2.hok e
  cases r0
  refine ⟨rs, c, dd, fun h' dd' hs => ⟨.ref s.heap.objs.size, _, ?_, rfl, q2⟩⟩
  have hz : (mergeK [] kvs).length ≤ sizeLine := by
    have h1 := length_mergeK kvs []
    rw [List.length_nil] at h1
    rw [sizeLine_eq]; omega
  have he : ∃ q, h'.get? s.heap.objs.size = some q := let ⟨q, _, _, hq, _⟩ := dd'; ⟨q, hq⟩
  exact d_write I2 (by rw [e]; exact True.intro) hs he (dk_new hz hd (rk.merge .nil) dd')
structure M1 (X : Cx) (o : Expr) (m : Str) (apos : Pos) (e : Expr) (cpos : Pos) : Prop where
  base : attributeBase o m X.env (eval o X.env) = eval o X.env
  few : ((backTo cpos (starEach [e] X.env)).all (fun x => !x.1) && (backToKw cpos (keywordEach [] X.env)).all (fun x => x.1.isSome)
    && decide (([e] : List Expr).length + ([] : List Keyword).length + (if ([] : List Keyword).isEmpty then 0 else 1) < 30)) = true
  line : (apos.endLine == cpos.line) = true
  trees : backTo cpos (starEach [e] X.env) = [(false, eval e X.env)]
structure M2 (X : Cx) (o : Expr) (m : Str) (apos : Pos) (e f : Expr) (cpos : Pos) : Prop where
  base : attributeBase o m X.env (eval o X.env) = eval o X.env
  few : ((backTo cpos (starEach [e, f] X.env)).all (fun x => !x.1) && (backToKw cpos (keywordEach [] X.env)).all (fun x => x.1.isSome)
    && decide (([e, f] : List Expr).length + ([] : List Keyword).length + (if ([] : List Keyword).isEmpty then 0 else 1) < 30)) = true
  line : (apos.endLine == cpos.line) = true
  trees : backTo cpos (starEach [e, f] X.env) = [(false, eval e X.env), (false, eval f X.env)]
def IsD (H : Hp) (a : Addr) : Prop := (∃ kvs, Rd H a (.dK kvs)) ∨ ∃ kvs, Rd H a (.dT kvs)
theorem isD_at {X : Cx} {pins : List (Addr × Obj)} {σ : St} {H : Hp} {s : Shared} {a : Addr} (I : Inv X pins σ H s) (d : IsD H a) :
    s.TypeIs (.ref a) "dict" ∧ (∀ b, Value.ref a = .ref b → ∃ ob, s.heap.get? b = some ob ∧ ob.dict = none) ∧ (a == sysModules) = false := by
  rcases d with ⟨kvs, e⟩ | ⟨kvs, e⟩
  · obtain ⟨_, hd, vs, _, dd⟩ := dk_rd I.hok e
    refine ⟨dd.typeIs, fun b q => ?_, hd⟩
    cases q
    obtain ⟨ob, _, _, h1, h2, _⟩ := dd
    exact ⟨ob, h1, h2.2.1⟩
  · obtain ⟨_, hd, xs, _, dd⟩ := dt_rd I.hok e
    refine ⟨dd.typeIs, fun b q => ?_, hd⟩
    cases q
    obtain ⟨ob, _, _, h1, h2, _⟩ := dd
    exact ⟨ob, h1, h2.2.1⟩
section
variable {X : Cx} {pins : List (Addr × Obj)} {σ : St} {H : Hp} {s : Shared} {a : Addr} {y d : V} {u r : Value} {o : Option V} {A : Around} {E : Value → Shared → Prop}
theorem d_get1 {Q : Value → Shared → Prop} (hu : A.units + 1 < cLine) (I : Inv X pins σ H s) (g : DGet H a y o) (ry : RelV y u) (h : ∀ w' s', Inv X pins σ H s' → RelV (o.getD .non) w' → Q w' s') :
    wpAny (model X.prog X.w) A (call (.builtin "dict.get") [.ref a, u]) Q E s := by
  rcases g with ⟨kvs, k, e, ey, l⟩ | ⟨kvs, k, b, e, ey, eb, l⟩
  · subst ey
    obtain ⟨z, hd, vs, rel, dd⟩ := dk_rd I.hok e
    refine call_meetsIn PySem.F.slot_dict_get dd.typeIs PySem.F.entry_dict_get (PySem.F.args_dict_get_2 _ _) (meets_dict_get (mixKind X.prog X.w) a (kV_is ry) hd) ⟨_, dd.mapOf, h _ _ (I.tok _) ?_⟩
    rw [l]
    exact (rel.val k).getD rfl
  · subst ey
    cases (show u = Value.ref b from ry)
    obtain ⟨z, hd, xs, rel, dd⟩ := dt_rd I.hok e
    refine call_meetsIn PySem.F.slot_dict_get dd.typeIs PySem.F.entry_dict_get (PySem.F.args_dict_get_2 _ _) (meetsH_dict_get (tupleKind (mixKind X.prog X.w)) a b hd) ⟨tupleKind_room_in1 hu, k, xs, key_of I.hok eb, dd, h _ _ (I.tok _) ?_⟩
    rw [l]
    exact (rel.val k).getD rfl
theorem d_get2 {Q : Value → Shared → Prop} (hu : A.units + 1 < cLine) (I : Inv X pins σ H s) (g : DGet H a y o) (ry : RelV y u) (rd : RelV d r) (h : ∀ w' s', Inv X pins σ H s' → RelV (o.getD d) w' → Q w' s') :
    wpAny (model X.prog X.w) A (call (.builtin "dict.get") [.ref a, u, r]) Q E s := by
  rcases g with ⟨kvs, k, e, ey, l⟩ | ⟨kvs, k, b, e, ey, eb, l⟩
  · subst ey
    obtain ⟨z, hd, vs, rel, dd⟩ := dk_rd I.hok e
    refine call_meetsIn PySem.F.slot_dict_get dd.typeIs PySem.F.entry_dict_get (PySem.F.args_dict_get_3 _ _ _) (meets_dict_get_default (mixKind X.prog X.w) a (kV_is ry) hd r) ⟨_, dd.mapOf, h _ _ (I.tok _) ?_⟩
    rw [l]
    exact (rel.val k).getD rd
  · subst ey
    cases (show u = Value.ref b from ry)
    obtain ⟨z, hd, xs, rel, dd⟩ := dt_rd I.hok e
    refine call_meetsIn PySem.F.slot_dict_get dd.typeIs PySem.F.entry_dict_get (PySem.F.args_dict_get_3 _ _ _) (meetsH_dict_get_default (tupleKind (mixKind X.prog X.w)) a b hd r) ⟨tupleKind_room_in1 hu, k, xs, key_of I.hok eb, dd, h _ _ (I.tok _) ?_⟩
    rw [l]
    exact (rel.val k).getD rd
end
def tDGet1 (td ty : TE) : TE := fun σ H Q => td σ H fun x H1 => ∃ a, x = .ref a ∧ IsD H1 a ∧ ty σ H1 fun y H2 => ∃ o, DGet H2 a y o ∧ Q (o.getD .non) H2
def tDGet2 (td ty tx : TE) : TE := fun σ H Q => td σ H fun x H1 => ∃ a, x = .ref a ∧ IsD H1 a ∧ ty σ H1 fun y H2 => tx σ H2 fun z H3 => ∃ o, DGet H3 a y o ∧ Q (o.getD z) H3
def tDPop1 (td ty : TE) : TE := fun σ H Q => td σ H fun x H1 => ∃ a, x = .ref a ∧ IsD H1 a ∧ ty σ H1 fun y H2 => ∃ kvs k v, H2 a = some (.dK kvs) ∧ y = kV k ∧ valV kvs k = some v ∧ Q v (upd H2 a (.dK (dropK kvs k)))
def tDPop2 (td ty tx : TE) : TE := fun σ H Q => td σ H fun x H1 => ∃ a, x = .ref a ∧ IsD H1 a ∧ ty σ H1 fun y H2 => tx σ H2 fun z H3 => ∃ kvs k, H3 a = some (.dK kvs) ∧ y = kV k ∧
  (∀ v, valV kvs k = some v → Q v (upd H3 a (.dK (dropK kvs k)))) ∧ (valV kvs k = none → Q z H3)
section
variable {X : Cx} {o e f : Expr} {apos cpos : Pos} {td ty tx : TE}
theorem pe_dget1 (hu : X.A.units + 1 < cLine) (ho : PE X o td) (he : PE X e ty) (m : M1 X o "get" apos e cpos) : PE X (.Call (.Attribute o "get" apos) [e] [] cpos) (tDGet1 td ty) := by
  intro pins s σ H Q I h
  refine wpAny_Call_method m.base m.few m.line PySem.F.plainAttrs_dict PySem.F.slot_dict_get PySem.F.type_dict_get (thn (ho pins s σ H _ I h) fun u s1 ⟨x, H1, I1, rx, a, ex, d, q1⟩ => ?_)
  subst ex
  obtain rfl : u = Value.ref a := rx
  obtain ⟨t1, t2, _⟩ := isD_at I1 d
  refine ⟨t1, t2, ?_⟩
  rw [m.trees]
  refine Calls.callWith_builtin rfl (Calls.evalArgs_plain (Calls.spliced_cons (thn (he pins s1 σ H1 _ I1 q1) fun iv s2 ⟨y, H2, I2, ry, ov, g, q2⟩ => Calls.spliced_nil ?_)))
  exact d_get1 hu I2 g ry fun w' s3 I3 rw' => ⟨_, H2, I3, rw', q2⟩
theorem pe_dget2 (hu : X.A.units + 1 < cLine) (ho : PE X o td) (he : PE X e ty) (hf : PE X f tx) (m : M2 X o "get" apos e f cpos) : PE X (.Call (.Attribute o "get" apos) [e, f] [] cpos) (tDGet2 td ty tx) := by
  intro pins s σ H Q I h
  refine wpAny_Call_method m.base m.few m.line PySem.F.plainAttrs_dict PySem.F.slot_dict_get PySem.F.type_dict_get (thn (ho pins s σ H _ I h) fun u s1 ⟨x, H1, I1, rx, a, ex, d, q1⟩ => ?_)
  subst ex
  obtain rfl : u = Value.ref a := rx
  obtain ⟨t1, t2, _⟩ := isD_at I1 d
  refine ⟨t1, t2, ?_⟩
  rw [m.trees]
  refine Calls.callWith_builtin rfl (Calls.evalArgs_plain (Calls.spliced_cons (thn (he pins s1 σ H1 _ I1 q1) fun iv s2 ⟨y, H2, I2, ry, q2⟩ =>
    Calls.spliced_cons (thn (hf pins s2 σ H2 _ I2 q2) fun fv s3 ⟨z, H3, I3, rz, ov, g, q3⟩ => Calls.spliced_nil ?_))))
  exact d_get2 hu I3 g ry rz fun w' s4 I4 rw' => ⟨_, H3, I4, rw', q3⟩
theorem pe_dpop1 (ho : PE X o td) (he : PE X e ty) (m : M1 X o "pop" apos e cpos) : PE X (.Call (.Attribute o "pop" apos) [e] [] cpos) (tDPop1 td ty) := by
  intro pins s σ H Q I h
  refine wpAny_Call_method m.base m.few m.line PySem.F.plainAttrs_dict PySem.F.slot_dict_pop PySem.F.type_dict_pop (thn (ho pins s σ H _ I h) fun u s1 ⟨x, H1, I1, rx, a, ex, d, q1⟩ => ?_)
  subst ex
  obtain rfl : u = Value.ref a := rx
  obtain ⟨t1, t2, _⟩ := isD_at I1 d
  refine ⟨t1, t2, ?_⟩
  rw [m.trees]
  refine Calls.callWith_builtin rfl (Calls.evalArgs_plain (Calls.spliced_cons (thn (he pins s1 σ H1 _ I1 q1) fun iv s2 ⟨y, H2, I2, ry, kvs, k, v, ea, ey, l, q2⟩ => Calls.spliced_nil ?_)))
  subst ey
  exact d_pop I2 ea ry l (.inl rfl) fun w' s3 I3 rw' => ⟨v, _, I3, rw', q2⟩
theorem pe_dpop2 (ho : PE X o td) (he : PE X e ty) (hf : PE X f tx) (m : M2 X o "pop" apos e f cpos) : PE X (.Call (.Attribute o "pop" apos) [e, f] [] cpos) (tDPop2 td ty tx) := by
  intro pins s σ H Q I h
  refine wpAny_Call_method m.base m.few m.line PySem.F.plainAttrs_dict PySem.F.slot_dict_pop PySem.F.type_dict_pop (thn (ho pins s σ H _ I h) fun u s1 ⟨x, H1, I1, rx, a, ex, d, q1⟩ => ?_)
  subst ex
  obtain rfl : u = Value.ref a := rx
  obtain ⟨t1, t2, _⟩ := isD_at I1 d
  refine ⟨t1, t2, ?_⟩
  rw [m.trees]
  refine Calls.callWith_builtin rfl (Calls.evalArgs_plain (Calls.spliced_cons (thn (he pins s1 σ H1 _ I1 q1) fun iv s2 ⟨y, H2, I2, ry, q2⟩ =>
    Calls.spliced_cons (thn (hf pins s2 σ H2 _ I2 q2) fun fv s3 ⟨z, H3, I3, rz, kvs, k, ea, ey, q3, q4⟩ => Calls.spliced_nil ?_))))
  subst ey
  cases l : valV kvs k with
  | some v => exact d_pop I3 ea ry l (.inr ⟨fv, rfl⟩) fun w' s4 I4 rw' => ⟨v, _, I4, rw', q3 v l⟩
  | none => exact d_popD I3 ea ry l fun s4 I4 => ⟨z, H3, I4, rz, q4 l⟩
end
section
variable {X : Cx} {pins : List (Addr × Obj)} {σ : St} {H : Hp} {s : Shared} {a : Addr} {kvs : List (Key × V)} {A : Around} {E : Value → Shared → Prop}
theorem d_copyOf {Q : Value → Shared → Prop} (I : Inv X pins σ H s) (e : Rd H a (.dK kvs)) (h : ∀ p s', H p = none → Inv X pins σ (upd H p (.dK kvs)) s' → Q (.ref p) s') : wpAny (model X.prog X.w) A (call (.type "dict") [.ref a]) Q E s := by
  obtain ⟨z, hd, vs, rel, dd⟩ := dk_rd I.hok e
  refine kt_call_dict hd dd (by rw [← rel.length]; exact z) fun h' dd' hs => ?_
  refine h _ _ (I.hok.fresh (Nat.le_refl _)) (I.laid (a := s.heap.objs.size) (o := .dK kvs) (t' := s.toks) (fun b q hq => ?_) (Nat.le_refl _) (dk_new z (beq_eq_false_iff_ne.mpr (Ne.symm (Nat.ne_of_lt I.big))) rel dd'))
  exact (hs.2 b (Nat.ne_of_lt (Heap.lt_size hq))).trans (Heap.get?_push_of_some _ hq)
end
section
variable {X : Cx} {pins : List (Addr × Obj)} {σ : St} {H : Hp} {s : Shared} {a : Addr} {y : V} {u : Value} {A : Around} {E : Value → Shared → Prop}
theorem d_missing {Q : Value → Shared → Prop} (hu : A.units + 1 < cLine) (hh : A.handled = none) (I : Inv X pins σ H s) (g : DGet H a y none) (ry : RelV y u)
    (h : ∀ h' e t', Heap.NewExc s.heap h' e "KeyError" → E (.ref e) { s with heap := h', toks := t' }) : wpAny (model X.prog X.w) A (getItem (.ref a) u) Q E s := by
  rcases g with ⟨kvs, k, e, ey, l⟩ | ⟨kvs, k, b, e, ey, eb, l⟩
  · subst ey
    obtain ⟨z, hd, vs, rel, dd⟩ := dk_rd I.hok e
    have hn : valueAt vs k = none := RelO.none_of (by rw [l]; exact rel.val k)
    exact wpAny_getItem_missing_of (kV_is ry) hd hh dd.mapOf hn fun h' ex ne => h h' ex _ ne
  · subst ey
    cases (show u = Value.ref b from ry)
    obtain ⟨z, hd, xs, rel, dd⟩ := dt_rd I.hok e
    have hn : (atKey xs k).map (·.2) = none := RelO.none_of (by rw [l]; exact rel.val k)
    exact wpAny_getItem_missing_heap (tupleKind_room_in1 hu) (key_of I.hok eb) hd hh dd (Option.map_eq_none_iff.mp hn) fun h' ex ne => h h' ex _ ne
end
end L2
namespace L2
open PySem PySem.Spec PyProof.Rows
section
variable {κ : Type} [DecidableEq κ]
theorem valV_not {kvs : List (κ × V)} {k : κ} (h : valV kvs k = none) : ¬ k ∈ kvs.map (·.1) := by
  intro m
  obtain ⟨p, hp, e⟩ := List.mem_map.mp m
  have q : (kvs.any fun kv => decide (kv.1 = k)) = true := List.any_eq_true.mpr ⟨p, hp, decide_eq_true e⟩
  rw [valV_any, h] at q
  exact absurd q (by simp)
theorem valV_in {kvs : List (κ × V)} {k : κ} {v : V} (h : valV kvs k = some v) : k ∈ kvs.map (·.1) := by
  have q : (kvs.any fun kv => decide (kv.1 = k)) = true := by
    rw [valV_any, h]
    all_goals rfl
  obtain ⟨p, hp, e⟩ := List.any_eq_true.mp q
  exact List.mem_map.mpr ⟨p, hp, of_decide_eq_true e⟩
theorem nd_snoc : ∀ {l : List κ} {k : κ}, l.Nodup → ¬ k ∈ l → (l ++ [k]).Nodup
  | [], k, _, _ => by simp
  | a :: r, k, h, hk => by
    obtain ⟨h1, h2⟩ := List.nodup_cons.mp h
    show (a :: (r ++ [k])).Nodup
    refine List.nodup_cons.mpr ⟨fun m => ?_, nd_snoc h2 fun m => hk (List.mem_cons.mpr (Or.inr m))⟩
    rcases List.mem_append.mp m with q | q
    · exact h1 q
    · exact hk (List.mem_cons.mpr (Or.inl (List.mem_singleton.mp q).symm))
theorem nd_putK {kvs : List (κ × V)} {k : κ} (v : V) (hn : (kvs.map (·.1)).Nodup) (h : valV kvs k = none) : ((putK kvs k v).map (·.1)).Nodup := by
  rw [putK_new v h, List.map_append]
  exact nd_snoc hn (valV_not h)
theorem dropK_pos {p : κ × V} {r : List (κ × V)} {k : κ} (e : p.1 = k) : dropK (p :: r) k = dropK r k := by
  unfold dropK
  rw [List.filter_cons, if_neg (by simp [e])]
theorem dropK_neg {p : κ × V} {r : List (κ × V)} {k : κ} (e : ¬ p.1 = k) : dropK (p :: r) k = p :: dropK r k := by
  unfold dropK
  rw [List.filter_cons, if_pos (by simp [e])]
theorem dropK_no : ∀ {kvs : List (κ × V)} {k : κ}, ¬ k ∈ kvs.map (·.1) → dropK kvs k = kvs
  | [], _, _ => rfl
  | p :: r, k, h => by
    have h' : ¬ k ∈ r.map (·.1) := fun m => by
      obtain ⟨q, hq, e⟩ := List.mem_map.mp m
      exact h (List.mem_map.mpr ⟨q, List.mem_cons.mpr (Or.inr hq), e⟩)
    rw [dropK_neg fun e => h (List.mem_map.mpr ⟨p, List.mem_cons.mpr (Or.inl rfl), e⟩), dropK_no h']
theorem dropK_mem {kvs : List (κ × V)} {k : κ} {p : κ × V} (h : p ∈ dropK kvs k) : p ∈ kvs := (List.mem_filter.mp h).1
theorem nd_dropK : ∀ {kvs : List (κ × V)} {k : κ}, (kvs.map (·.1)).Nodup → ((dropK kvs k).map (·.1)).Nodup
  | [], _, _ => List.nodup_nil
  | p :: r, k, h => by
    have h : (p.1 :: r.map (·.1)).Nodup := h
    obtain ⟨h1, h2⟩ := List.nodup_cons.mp h
    by_cases e : p.1 = k
    · rw [dropK_pos e]
      exact nd_dropK h2
    · rw [dropK_neg e]
      show (p.1 :: (dropK r k).map (·.1)).Nodup
      refine List.nodup_cons.mpr ⟨fun m => h1 ?_, nd_dropK h2⟩
      obtain ⟨q, hq, eq⟩ := List.mem_map.mp m
      exact List.mem_map.mpr ⟨q, dropK_mem hq, eq⟩
theorem dropK_len : ∀ {kvs : List (κ × V)} {k : κ}, (kvs.map (·.1)).Nodup → k ∈ kvs.map (·.1) → (dropK kvs k).length + 1 = kvs.length
  | [], _, _, m => by simp at m
  | p :: r, k, h, m => by
    have h : (p.1 :: r.map (·.1)).Nodup := h
    have m : k = p.1 ∨ k ∈ r.map (·.1) := List.mem_cons.mp m
    obtain ⟨h1, h2⟩ := List.nodup_cons.mp h
    by_cases e : p.1 = k
    · subst e
      rw [dropK_pos rfl, dropK_no h1]
      all_goals rfl
    · have m' : k ∈ r.map (·.1) := m.resolve_left fun z => e z.symm
      have q := dropK_len h2 m'
      rw [dropK_neg e, List.length_cons, List.length_cons]
      omega
end
end L2
namespace L2
open PySem PySem.Spec PyProof.Rows
def cxC (X : Cx) (N : List Str) (scope : Scope) (cl : List (Str × Addr)) (C : Addr) (s0 : Shared) (H0 : Hp) (ex : List Addr) : Cx :=
  { X with N := N, s₀ := s0, H₀ := H0, env := compEnvC scope cl C X.env, outer := X.stack, stack := X.stack, ex := ex, fn := fun _ => false, pn := [], xe := fun _ _ => False }
theorem closure_ok {env : Env} (has : ∀ x, (env.kindOf x = some .cell ∨ env.kindOf x = some .free) → ∃ c, env.cells.lookup x = some c) {scope : Scope}
    (hf : ∀ y ∈ scope.names, y.2 = .free → env.kindOf y.1 = some .cell ∨ env.kindOf y.1 = some .free) :
    ∃ cl, closureFor scope env = pure cl ∧ (∀ x c, cl.lookup x = some c → env.cells.lookup x = some c) ∧ (∀ y ∈ scope.names, y.2 = .free → ∃ c, cl.lookup y.1 = some c) := by
  have gen : ∀ (names : List (Str × NameKind)) (cs : List (Str × Addr)), (∀ y ∈ names, y.2 = .free → env.kindOf y.1 = some .cell ∨ env.kindOf y.1 = some .free) →
      (∀ x c, cs.lookup x = some c → env.cells.lookup x = some c) →
      ∃ cl, (forIn (m := Sem) names cs fun p r => do
          match p with
          | (name, kind) => if kind == .free then do let c ← cellOf env name; pure (ForInStep.yield ((name, c) :: r)) else pure (ForInStep.yield r)) = pure cl ∧
        (∀ x c, cl.lookup x = some c → env.cells.lookup x = some c) ∧ (∀ x c, cs.lookup x = some c → ∃ c, cl.lookup x = some c) ∧ (∀ y ∈ names, y.2 = .free → ∃ c, cl.lookup y.1 = some c) := by
    intro names
    induction names with
    | nil => intro cs _ h; exact ⟨cs, rfl, h, fun x c e => ⟨c, e⟩, fun y hy => nomatch hy⟩
    | cons p r ih =>
      intro cs hp h
      obtain ⟨n, k⟩ := p
      by_cases hk : k = .free
      · subst hk
        obtain ⟨c, hc⟩ := has n (hp (n, .free) List.mem_cons_self rfl)
        have h' : ∀ x d, ((n, c) :: cs).lookup x = some d → env.cells.lookup x = some d := by
          intro x d e
          rw [List.lookup_cons] at e
          cases hx : x == n with
          | true =>
            rw [hx] at e
            have : x = n := by simpa using hx
            cases e; rw [this]; exact hc
          | false => rw [hx] at e; exact h x d e
        obtain ⟨cl, e1, e2, e3, e4⟩ := ih ((n, c) :: cs) (fun y hy => hp y (List.mem_cons_of_mem _ hy)) h'
        have hn : ∃ d, cl.lookup n = some d := e3 n c (by simp [List.lookup_cons])
        refine ⟨cl, ?_, e2, fun x d e => ?_, fun y hy hyk => ?_⟩
        · rw [List.forIn_cons]
          have : cellOf env n = pure c := by unfold cellOf; rw [hc]
          simp only [beq_self_eq_true, if_true, this]
          exact e1
        · by_cases hx : x = n
          · subst hx; exact hn
          · exact e3 x d (by rw [List.lookup_cons]; have : (x == n) = false := by simpa using hx
                             rw [this]; exact e)
        · rcases List.mem_cons.mp hy with rfl | hy
          · exact hn
          · exact e4 y hy hyk
      · obtain ⟨cl, e1, e2, e3, e4⟩ := ih cs (fun y hy => hp y (List.mem_cons_of_mem _ hy)) h
        refine ⟨cl, ?_, e2, e3, fun y hy hyk => ?_⟩
        · rw [List.forIn_cons]
          have : (k == NameKind.free) = false := by simpa using hk
          simp only [this]
          exact e1
        · rcases List.mem_cons.mp hy with rfl | hy
          · exact absurd hyk hk
          · exact e4 y hy hyk
  obtain ⟨cl, e1, e2, _, e4⟩ := gen scope.names [] hf (fun x c e => nomatch e)
  refine ⟨cl, ?_, e2, e4⟩
  unfold closureFor
  simp only []
  exact congrArg (· >>= fun cs => pure cs) e1 |>.trans rfl
end L2
namespace L2
open PySem PySem.Spec PyProof.Rows
theorem relabel_kind {scope : Scope} {env : Env} {x : Str} {k : NameKind} (h : (relabel scope env).names.lookup x = some k) (hk : k = .cell ∨ k = .free) (nc : ∀ y ∈ scope.names, y.2 ≠ .cell) : ∃ y ∈ scope.names, y.1 = x ∧ y.2 = .free := by
  have gen : ∀ names : List (Str × NameKind), (names.map fun (n, k) => if (k == NameKind.free && env.scope.kind == .function && env.kindOf n == some .cell) then (n, NameKind.cell) else (n, k)).lookup x = some k → (∀ y ∈ names, y.2 ≠ .cell) →
      ∃ y ∈ names, y.1 = x ∧ y.2 = .free := by
    intro names
    induction names with
    | nil => intro h _; cases h
    | cons p r ih =>
      obtain ⟨n, j⟩ := p
      intro h nc
      rw [List.map_cons, List.lookup_cons] at h
      have e1 : (if (j == NameKind.free && env.scope.kind == .function && env.kindOf n == some .cell) = true then (n, NameKind.cell) else (n, j)).1 = n := by split <;> rfl
      dsimp only at h
      rw [e1] at h
      cases hx : x == n with
      | false =>
        rw [hx] at h
        obtain ⟨y, hy, q⟩ := ih h fun y hy => nc y (List.mem_cons_of_mem _ hy)
        exact ⟨y, List.mem_cons_of_mem _ hy, q⟩
      | true =>
        rw [hx] at h
        have ex : x = n := by simpa using hx
        have hj : j = .free := by
          by_cases hc : (j == NameKind.free && env.scope.kind == .function && env.kindOf n == some .cell) = true
          · have := (Bool.and_eq_true _ _).mp ((Bool.and_eq_true _ _).mp hc).1
            simpa using this.1
          · rw [if_neg hc] at h
            cases h
            rcases hk with z | z
            · exact absurd z (nc (n, j) List.mem_cons_self)
            · exact z
        exact ⟨(n, j), List.mem_cons_self, ex.symm, hj⟩
  exact gen scope.names h nc
section
variable {X : Cx} {pins : List (Addr × Obj)} {σ : St} {H : Hp} {s : Shared} {N : List Str} {scope : Scope} {cl : List (Str × Addr)} {C : Addr} {ex : List Addr}
theorem cxC_ok (I : Inv X pins σ H s) (hC : s.heap.objs.size ≤ C) (hkind : scope.kind = .function) (nc : ∀ y ∈ scope.names, y.2 ≠ .cell)
    (hcl : ∀ x c, cl.lookup x = some c → X.env.cells.lookup x = some c) (hcf : ∀ y ∈ scope.names, y.2 = .free → ∃ c, cl.lookup y.1 = some c)
    (hex : ∀ b ∈ ex, FpOk X pins H b) (hexl : ∀ b ∈ ex, b < s.heap.objs.size) : (cxC X N scope cl C s H ex).Ok where
  mod := I.ok.mod
  kind := hkind
  glob := I.ok.glob
  blt := I.ok.blt
  above := hC
  inj := fun x y c h1 h2 => I.ok.inj x y c (hcl x c h1) (hcl y c h2)
  has := fun x hx => by
    have hx' : ∃ k, (relabel scope X.env).names.lookup x = some k ∧ (k = .cell ∨ k = .free) := by
      rcases hx with h | h
      · exact ⟨_, h, .inl rfl⟩
      · exact ⟨_, h, .inr rfl⟩
    obtain ⟨k, h, hk⟩ := hx'
    obtain ⟨y, hy, e1, e2⟩ := relabel_kind h hk nc
    rw [← e1]
    exact hcf y hy e2
  cab := fun x c h => by cases h
  hd := I.ok.hd
  frames := I.ok.frames
  stk := .inl rfl
  exf := fun b hb => ⟨Nat.ne_of_lt (Nat.lt_of_lt_of_le (hexl b hb) hC), fun x c e => (hex b hb).2.2.2.2.1 x c (hcl x c e)⟩
  bs := I.bs
  bsz := Nat.le_trans I.ok.bsz I.sz
  noex := fun b o e hb => by
    rcases (hex b hb).2.2.2.1 with z | z
    · exact I.ok.noex b o e z
    · have h1 := Heap.lt_size e
      have h2 := I.ok.bsz
      exact absurd (Nat.lt_of_lt_of_le h1 (Nat.le_trans h2 z)) (Nat.lt_irrefl _)
  exfs := fun b hb z => by
    have h1 := I.stkSub b z
    rcases List.mem_cons.mp h1 with z | z
    · exact (hex b hb).2.1 z
    · exact (hex b hb).2.2.1 z
  funs := I.stack
  frf := I.stkFree
def capV (caps : List Nat) (σ : St) : St := caps.map fun j => (σ[j]?).join
def cSt (n : Nat) (caps : List Nat) (σ : St) : St := List.replicate n none ++ capV caps σ
theorem cxC_inv {caps : List Nat} {Nt Nf : List Str} {s1 : Shared} {m : Str → Option Value} (I : Inv X pins σ H s) (ok : (cxC X (Nt ++ Nf) scope cl C s H ex).Ok)
    (hcl : ∀ x c, cl.lookup x = some c → X.env.cells.lookup x = some c)
    (hcap : caps.map (fun j => X.N[j]?) = Nf.map some)
    (hvis : ∀ x ∈ Nf, scope.names.lookup x = some .free) (hXv : ∀ x ∈ Nf, X.env.kindOf x = some .cell ∨ X.env.kindOf x = some .free) (hcf : ∀ x ∈ Nf, ∃ c, cl.lookup x = some c)
    (hos : s1.os = s.os) (hgens : s1.gens = s.gens) (hk : ∀ b o, s.heap.get? b = some o → s1.heap.get? b = some o) (hns : s1.heap.Ns C m) (hC : s.heap.objs.size ≤ C) :
    Inv (cxC X (Nt ++ Nf) scope cl C s H ex) [] (cSt Nt.length caps σ) H s1 := by
  have hlen : caps.length = Nf.length := by
    have := congrArg List.length hcap
    simpa using this
  refine ⟨ok, hos, by rw [hgens]; exact I.bare, Un.kept hk, ⟨m, hns, fun i x v h1 h2 h3 => ?_⟩, fun x c e => ?_, I.hok.fresh hC, fun x c e => I.freeC x c (hcl x c e), fun p hp => absurd (show p ∈ ([] : List (Addr × Obj)) from hp) (by simp), I.hok.kept hk, ?_⟩
  · -- a captured name
    have hi : Nt.length ≤ i := by
      refine Nat.le_of_not_lt fun q => ?_
      unfold cSt at h2
      rw [List.getElem?_append_left (by simpa using q), List.getElem?_replicate] at h2
      split at h2 <;> cases h2
    have h1' : Nf[i - Nt.length]? = some x := by
      have : (Nt ++ Nf)[i]? = some x := h1
      rwa [List.getElem?_append_right hi] at this
    unfold cSt at h2
    rw [List.getElem?_append_right (by simpa using hi)] at h2
    have e0 : i - (List.replicate Nt.length (none : Option V)).length = i - Nt.length := by simp
    rw [e0] at h2
    generalize hj : i - Nt.length = j at h1' h2
    unfold capV at h2
    rw [List.getElem?_map] at h2
    cases hc : caps[j]? with
    | none => rw [hc] at h2; cases h2
    | some jj =>
      rw [hc] at h2
      have h2' : (σ[jj]?).join = some v := Option.some.inj h2
      have h2'' : σ[jj]? = some (some v) := by
        cases q : σ[jj]? with
        | none => rw [q] at h2'; cases h2'
        | some z => rw [q] at h2'; cases z with
          | none => cases h2'
          | some z' => cases h2'; rfl
      have hN : X.N[jj]? = some x := by
        have q := congrArg (fun l => l[j]?) hcap
        simp only [List.getElem?_map, hc, h1', Option.map_some] at q
        exact Option.some.inj q
      have hx : x ∈ Nf := List.mem_of_getElem? h1'
      have hXk := hXv x hx
      obtain ⟨mX, _, hl⟩ := I.loc
      obtain ⟨u, ru, lk⟩ := hl jj x v hN h2'' (by
        rcases hXk with z | z
        · exact .inr (.inl z)
        · exact .inr (.inr z))
      refine ⟨u, ru, .inr ?_⟩
      rcases lk with ⟨z, _⟩ | ⟨_, c, hc1, hcell⟩
      · rcases hXk with y | y <;> (rw [z] at y; cases y)
      · obtain ⟨c', hc'⟩ := hcf x hx
        have e := hcl x c' hc'
        rw [hc1] at e; cases e
        refine ⟨?_, c, hc', ?_⟩
        · rcases h3 with z | z | z
          · -- not a local of the block
            exfalso
            have hfree := hvis x hx
            have z' : (relabel scope X.env).names.lookup x = some .local := z
            have gen : ∀ names : List (Str × NameKind), names.lookup x = some .free → (names.map fun (n, k) => if (k == NameKind.free && X.env.scope.kind == .function && X.env.kindOf n == some .cell) then (n, NameKind.cell) else (n, k)).lookup x ≠ some .local := by
              intro names
              induction names with
              | nil => intro h; cases h
              | cons p r ih =>
                obtain ⟨n, k⟩ := p
                intro h
                rw [List.map_cons, List.lookup_cons]
                rw [List.lookup_cons] at h
                have e1 : (if (k == NameKind.free && X.env.scope.kind == .function && X.env.kindOf n == some .cell) = true then (n, NameKind.cell) else (n, k)).1 = n := by split <;> rfl
                dsimp only
                rw [e1]
                cases hx : x == n with
                | false => rw [hx] at h; exact ih h
                | true =>
                  rw [hx] at h
                  cases h
                  show some (if _ then (n, NameKind.cell) else (n, NameKind.free)).2 ≠ some .local
                  split <;> (intro q; cases q)
            exact gen scope.names hfree z'
          · exact .inl z
          · exact .inr z
        · obtain ⟨o, eo, d⟩ := hcell
          exact ⟨o, hk _ _ eo, d⟩
  · obtain ⟨v, q⟩ := I.cell x c (hcl x c e)
    obtain ⟨o, eo, d⟩ := q
    exact ⟨v, o, hk _ _ eo, d⟩
  · show (cSt Nt.length caps σ).length = (Nt ++ Nf).length
    unfold cSt capV
    simp [hlen]
end
end L2
namespace L2
open PySem PySem.Spec PyProof.Rows
abbrev askIfs (ifs : List Expr) (env : Env) : Sem Bool := forIn ifs true fun c r => if r = true then do let ok ← isTrue c env (eval c env); pure (ForInStep.yield ok) else pure (ForInStep.yield r)
abbrev NoX : Value → Shared → Prop := fun _ _ => False
theorem compLoop_any {P : Program} {w : World} {B : Around} {R : Result → Shared → Prop} {s : Shared} {y tg l : Expr} {cs : List Expr} {sc : Scope} {ps : Pos} {iv av : Value} {en : Env} (G : Nat → Shared → Prop)
    (one : ∀ n s, G n s → wpAny (model P w) B (pyNext iv) (fun r s1 => match r with
      | none => R (.ok .next) s1
      | some v => wpAny (model P w) B (letOwnedTupleGo tg iv v) (fun _ s1 => wpAny (model P w) B (assign tg en v) (fun _ s2 => wpAny (model P w) B (askIfs cs en) (fun k s3 =>
            if k = true then wpAny (model P w) B (eval y en) (fun x s4 => wpAny (model P w) B (call (.builtin "list.append") [av, x]) (fun _ s5 => ∃ m, m < n ∧ G m s5) NoX s4) NoX s3
            else ∃ m, m < n ∧ G m s3) NoX s2) NoX s1) NoX s1) NoX s) (n : Nat) (h : G n s) :
    codeAny (model P w) B (.compLoop (.ListComp y [⟨tg, l, cs, 0⟩] sc ps) 0 iv av en) R s := by
  refine codeAny_loop rfl G (fun n s hG => ?_) n h
  show wpAny _ B ((compTurn (.ListComp y [⟨tg, l, cs, 0⟩] sc ps) 0 iv av en).onRaise (fun x => do noteFrame x en; theTreesLotGoes x)) _ _ s
  refine wpAny_noted ?_
  rw [compTurn_list]
  refine wpAny_bind (wpAny_standAt (wpAny_bind (wpAny_mono (one n s hG) (fun r s1 h1 => ?_) fun _ _ z => z.elim)))
  cases r with
  | none => exact wpAny_pure h1
  | some v =>
    refine wpAny_bind (wpAny_mono h1 (fun _ s1' h1' => ?_) fun _ _ z => z.elim)
    refine wpAny_bind (wpAny_mono h1' (fun _ s2 h2 => wpAny_bind (wpAny_mono h2 (fun k s3 h3 => ?_) fun _ _ z => z.elim)) fun _ _ z => z.elim)
    cases k with
    | false => exact wpAny_pure ⟨rfl, h3⟩
    | true => exact wpAny_bind (wpAny_bind (wpAny_mono h3 (fun x s4 h4 => wpAny_bind (wpAny_mono h4 (fun _ s5 h5 => wpAny_pure (wpAny_pure ⟨rfl, h5⟩)) fun _ _ z => z.elim)) fun _ _ z => z.elim))
def PTs (X : Cx) (ifs : List Expr) (t : TT) : Prop :=
  ∀ (pins : List (Addr × Obj)) (s : Shared) (σ : St) (H : Hp) (Q : Bool → Hp → Prop), Inv X pins σ H s → t σ H Q →
    wpAny (model X.prog X.w) X.A (askIfs ifs X.env) (TP X pins σ Q) X.xe s
def tNoIf : TT := fun _ H Q => Q true H
theorem pts_nil {X : Cx} : PTs X [] tNoIf := fun pins s σ H Q I h => wpAny_tests_nil ⟨H, I, h⟩
theorem pts_one {X : Cx} {c : Expr} {t : TT} (h : PT X c t) : PTs X [c] t := fun pins s σ H Q I q => wpAny_tests_one (h pins s σ H Q I q)
section
variable {X : Cx} {pins : List (Addr × Obj)} {σ : St} {H : Hp} {s : Shared}
theorem Inv.adopt {D : Addr} {o : HO} (I : Inv X pins σ H s) (hD : H D = none) (h1 : X.s₀.heap.objs.size ≤ D) (h2 : D ≠ X.env.locals) (h3 : ∀ x c, X.env.cells.lookup x = some c → c ≠ D) (h4 : ∀ p ∈ X.pn ++ pins, p.1 ≠ D)
    (new : ObjOk X.prog X.w (upd H D o) s.heap D o) : Inv X pins σ (upd H D o) s := by
  have old : ∀ {b : Addr} {q : Obj}, X.s₀.heap.get? b = some q → b ≠ D := fun e => Nat.ne_of_lt (Nat.lt_of_lt_of_le (Heap.lt_size e) h1)
  refine ⟨I.ok, I.os, I.bare, ⟨I.base.keep, I.base.slot, fun b q e n hx => by rw [upd_ne (old e)]; exact I.base.free b q e n hx, I.base.there, fun b xs e => ?_, fun b q u e => ?_, fun b ps e => ?_⟩, I.loc, I.cell, by rw [upd_ne (Ne.symm h2)]; exact I.free, fun x c e => by rw [upd_ne (h3 x c e)]; exact I.freeC x c e, fun p hp => ?_, fun b u e => ?_, I.len⟩
  · have e' := I.base.tups b xs e
    rw [upd_ne (ne_of_none e' hD)]; exact e'
  · have e' := I.base.frzs b q u e
    rw [upd_ne (ne_of_none e' hD)]; exact e'
  · obtain ⟨more, e'⟩ := I.base.tbls b ps e
    exact ⟨more, by rw [upd_ne (ne_of_none e' hD)]; exact e'⟩
  · obtain ⟨a1, a2, a3, a4, a5⟩ := I.pin p hp
    exact ⟨a1, by rw [upd_ne (h4 p hp)]; exact a2, a3, a4, a5⟩
  · by_cases hb : b = D
    · subst hb; rw [upd_same] at e; cases e; exact new
    · rw [upd_ne hb] at e
      exact (I.hok b u e).stay (fun c v _ q => q) (fun c q => by rw [upd_ne (ne_of_none q hD)]; exact q) fun c xs q => by rw [upd_ne (ne_of_none q hD)]; exact q
def tLC (wi : TI) (g : TG) (tt : TT) (te : TE) (n : Nat) (caps : List Nat) : TE := fun σ H Q => wi σ H fun J H1 => ∃ W : Nat → Nat → List V → St → Hp → Prop, (∃ m, W 0 m [] (cSt n caps σ) H1) ∧ ∀ i m acc σ' H', W i m acc σ' H' →
  (J.stop i H' ∧ ∀ l, H' l = none → Q (.ref l) (upd H' l (.lst acc))) ∨
  (J.go i H' ∧ acc.length < sizeLine ∧ ∃ N : List V → St → Hp → Prop, (∀ ac σ2 H2, N ac σ2 H2 → ∃ m', m' < m ∧ W (i + 1) m' ac σ2 H2) ∧ ∀ x H2, J.yld i H' x H2 → g x σ' H2 fun σ3 H3 => tt σ3 H3 fun b H4 => if b = true then te σ3 H4 fun y H5 => N (acc ++ [y]) σ3 H5 else N acc σ3 H4)
structure CompOk (X : Cx) (scope : Scope) (Nt Nf : List Str) (caps : List Nat) : Prop where
  kind : scope.kind = .function
  nc : ∀ y ∈ scope.names, y.2 ≠ .cell
  nm : ∀ y ∈ scope.names, y.2 = .local → scope.names.lookup y.1 = some .local
  fr : ∀ y ∈ scope.names, y.2 = .free → X.env.kindOf y.1 = some .cell ∨ X.env.kindOf y.1 = some .free
  cap : caps.map (fun j => X.N[j]?) = Nf.map some
  vis : ∀ x ∈ Nf, scope.names.lookup x = some .free
theorem comp_block {tg iter elt : Expr} {ifs : List Expr} {scope : Scope} {pos : Pos} {g : TG} {tt : TT} {te : TE} {Nt Nf : List Str} {caps : List Nat} {cl : List (Str × Addr)} {it : Addr} {fp : List Addr} {tn : Nat → Heap → Prop} {J : It} {Q : VK} {E : Value → Shared → Prop}
    {RR : Value → Addr → Result → Shared → Prop}
    (hc : X.calm = true) (S : CompOk X scope Nt Nf caps)
    (hg : ∀ cl C s0 H0 ex, PG (cxC X (Nt ++ Nf) scope cl C s0 H0 ex) tg g)
    (ht : ∀ cl C s0 H0 ex, PTs (cxC X (Nt ++ Nf) scope cl C s0 H0 ex) ifs tt)
    (he : ∀ cl C s0 H0 ex, PE (cxC X (Nt ++ Nf) scope cl C s0 H0 ex) elt te)
    (hcl : ∀ x c, cl.lookup x = some c → X.env.cells.lookup x = some c) (hcf : ∀ y ∈ scope.names, y.2 = .free → ∃ c, cl.lookup y.1 = some c)
    (I : Inv X pins σ H s) (T : Turn X.prog X.w X.K tg J fp it tn) (st : tn 0 s.heap) (hfp : ∀ b ∈ fp, FpOk X pins H b)
    (hW : ∃ W : Nat → Nat → List V → St → Hp → Prop, (∃ m, W 0 m [] (cSt Nt.length caps σ) H) ∧ ∀ i m acc σ' H', W i m acc σ' H' →
      (J.stop i H' ∧ ∀ l, H' l = none → Q (.ref l) (upd H' l (.lst acc))) ∨
      (J.go i H' ∧ acc.length < sizeLine ∧ ∃ N : List V → St → Hp → Prop, (∀ ac σ2 H2, N ac σ2 H2 → ∃ m', m' < m ∧ W (i + 1) m' ac σ2 H2) ∧ ∀ x H2, J.yld i H' x H2 → g x σ' H2 fun σ3 H3 => tt σ3 H3 fun b H4 => if b = true then te σ3 H4 fun y H5 => N (acc ++ [y]) σ3 H5 else N acc σ3 H4))
    (fin : ∀ D C m s' H', Inv X pins σ H' s' → Q (.ref D) H' → s'.heap.Ns C m → H' C = none → C ≠ X.env.locals → X.s₀.heap.objs.size ≤ C → (∀ x c, X.env.cells.lookup x = some c → c ≠ C) → (∀ p ∈ X.pn ++ pins, p.1 ≠ C) → RR (.ref D) C (.ok .next) s') :
    wpAny (model X.prog X.w) X.A (newList []) (fun acc s₃ => wpAny (model X.prog X.w) X.A (newFunctionEnv scope X.env.globals cl [] X.env.qual none .none (some X.env)) (fun cenv s₄ =>
      codeAny (model X.prog X.w) X.A (.compStart (.ListComp elt [⟨tg, iter, ifs, 0⟩] scope pos) 0 (.ref it) acc { cenv with scope := relabel scope X.env }) (RR acc cenv.locals) s₄) E s₃) E s := by
  obtain ⟨W, ⟨m0, w0⟩, turn⟩ := hW
  refine wpAny_newObj_type (wpAny_newFunctionEnv S.nc (by intro y hy; simp at hy) (fun h₁ hns₁ hsb₁ => ?_) S.kind)
  dsimp only at hns₁ hsb₁ ⊢
  generalize hH2 : s.heap.push { cls := .type "list", dict := none, data := .seq ([] : List Value).toArray } = P2 at hns₁ hsb₁ ⊢
  have hCs : P2.objs.size = s.heap.objs.size + 1 := by rw [← hH2, Heap.size_push]
  have hDC : s.heap.objs.size ≠ P2.objs.size := by rw [hCs]; exact Nat.ne_of_lt (Nat.lt_succ_self _)
  have hCle : s.heap.objs.size ≤ P2.objs.size := by rw [hCs]; exact Nat.le_succ _
  have below : ∀ b, b < s.heap.objs.size → b ≠ P2.objs.size := fun b hb => by rw [hCs]; exact Nat.ne_of_lt (Nat.lt_succ_of_lt hb)
  have old : ∀ b o, s.heap.get? b = some o → h₁.get? b = some o := fun b o e => hsb₁.extBut b o (below b (Heap.lt_size e)) (Heap.get?_push_of_some _ (hH2 ▸ Heap.get?_push_of_some _ e))
  have hacc : h₁.PlainList s.heap.objs.size #[] := ⟨_, hsb₁.extBut _ _ hDC (Heap.get?_push_of_some _ (hH2 ▸ Heap.get?_push_size _ rfl))⟩
  have fpl : ∀ b ∈ fp, b < s.heap.objs.size := fun b hb => by
    obtain ⟨o, e, _⟩ := T.obj _ _ st b hb
    exact Heap.lt_size e
  have st₁ : tn 0 h₁ := T.keep _ _ _ st fun b _ o e => old b o e
  generalize hCe : P2.objs.size = C at hns₁ hsb₁ hDC hCle below ⊢
  generalize hDe : s.heap.objs.size = D at hacc hDC hCle ⊢
  have hDl : X.env.locals < D := by rw [← hDe]; exact I.lt
  have hDs : X.s₀.heap.objs.size ≤ D := by rw [← hDe]; exact I.sz
  have hcD : ∀ x c, X.env.cells.lookup x = some c → c < D := fun x c e => by
    obtain ⟨v, q⟩ := I.cell x c e
    rw [← hDe]; exact q.lt
  have hpD : ∀ p ∈ X.pn ++ pins, p.1 < D := fun p hp => by rw [← hDe]; exact Heap.lt_size (I.pin p hp).1
  let Y : Cx := cxC X (Nt ++ Nf) scope cl C s H fp
  have okY : Y.Ok := cxC_ok I (by rw [hDe]; exact hCle) S.kind S.nc hcl hcf hfp fpl
  have hfsY : ∀ b, b ∈ Y.fs → b < D := fun b hb => by
    rcases List.mem_cons.mp (I.stkSub b hb) with z | z
    · rw [z]; exact hDl
    · refine Nat.lt_of_lt_of_le ?_ hDs
      have := (I.ok.funs.mem z)
      refine Nat.lt_of_not_le fun q => ?_
      exact absurd z (fun z => by
        have := I.nofs (a := b)
        by_cases hb2 : s.heap.objs.size ≤ b
        · exact this hb2 z
        · obtain ⟨_, o, e, _⟩ := I.ok.funs.mem z
          exact absurd (Heap.lt_size e) (Nat.not_lt.mpr q))
  have loop : ∀ s₃ : Shared, s₃ = { s with heap := h₁, toks := s.toks + ([] : List (Str × Value)).length } →
      codeAny (model X.prog X.w) X.A (.compLoop (.ListComp elt [⟨tg, iter, ifs, 0⟩] scope pos) 0 (.ref it) (.ref D) Y.env) (RR (.ref D) C) s₃ := by
    rintro s₃ rfl
    have I0 : Inv Y [] (cSt Nt.length caps σ) H { s with heap := h₁, toks := s.toks + ([] : List (Str × Value)).length } :=
      cxC_inv I okY hcl S.cap S.vis (fun x hx => S.fr (x, .free) (PySem.mem_of_lookup (S.vis x hx)) rfl) (fun x hx => hcf (x, .free) (PySem.mem_of_lookup (S.vis x hx)) rfl) rfl rfl old hns₁ (by rw [hDe]; exact hCle)
    have fpY : ∀ {H' : Hp}, (∀ b ∈ fp, H' b = none) → ∀ b ∈ fp, FpOk Y [] H' b := fun hn b hb =>
      ⟨hn b hb, Nat.ne_of_lt (Nat.lt_of_lt_of_le (fpl b hb) (by rw [hDe]; exact hCle)), okY.exfs b hb, .inl hb, fun x c e => (hfp b hb).2.2.2.2.1 x c (hcl x c e), fun p hp => absurd (show p ∈ ([] : List (Addr × Obj)) from hp) (by simp)⟩
    have fpD : ∀ b ∈ fp, b ≠ D := fun b hb => Nat.ne_of_lt (by rw [← hDe]; exact fpl b hb)
    refine compLoop_any (fun n s' => ∃ i acc its σ' H', Inv Y [] σ' H' s' ∧ tn i s'.heap ∧ (∀ b ∈ fp, H' b = none) ∧ s'.heap.PlainList D its ∧ H' D = none ∧ Vals acc its.toList ∧ acc.length ≤ sizeLine ∧ W i n acc σ' H') ?_ m0
      ⟨0, [], #[], cSt Nt.length caps σ, H, I0, st₁, fun b hb => (hfp b hb).1, hacc, by rw [← hDe]; exact I.hok.fresh (Nat.le_refl _), .nil, Nat.zero_le _, w0⟩
    rintro n s3 ⟨i, acc, its, σ3, H3, I3, st3, fr3, ⟨nd, e3⟩, hD3, rv3, hl3, w3⟩
    have cD : C ≠ D := Ne.symm hDC
    have pinOk : ∀ {H' : Hp} {s' : Shared} {o : Obj}, s'.heap.get? D = some o → H' D = none → (∀ v, o.data ≠ .cell v) → s'.heap.get? D = some o ∧ H' D = none ∧ D ≠ Y.env.locals ∧ D ∉ Y.fs ∧ ∀ v, o.data ≠ .cell v := fun e n d =>
      ⟨e, n, hDC, fun z => absurd (hfsY D z) (Nat.lt_irrefl _), d⟩
    have I3' : Inv Y [(D, { cls := .type "list", data := .seq its nd })] σ3 H3 s3 := I3.pins_of fun p hp => by
      obtain rfl : p = (D, ({ cls := .type "list", data := .seq its nd } : Obj)) := List.mem_singleton.mp hp
      exact pinOk e3 hD3 (fun v z => by cases z)
    have fpY' : ∀ {H' : Hp}, (∀ b ∈ fp, H' b = none) → ∀ b ∈ fp, FpOk Y [(D, { cls := .type "list", data := .seq its nd })] H' b := fun hn b hb => by
      obtain ⟨a1, a2, a3, a4, a5, _⟩ := fpY hn b hb
      refine ⟨a1, a2, a3, a4, a5, fun p hp => ?_⟩
      obtain rfl : p = (D, ({ cls := .type "list", data := .seq its nd } : Obj)) := List.mem_singleton.mp hp
      exact Ne.symm (fpD b hb)
    rcases turn i n acc σ3 H3 w3 with ⟨stop, qn⟩ | ⟨go, hlt, N, hN, step⟩
    · refine thn (T.done Y rfl rfl rfl hc i _ s3 σ3 H3 _ I3' (fpY' fr3) st3 stop) fun r s4 ⟨hr, I4⟩ => ?_
      subst hr
      have e4 := (I4.pin (D, { cls := .type "list", data := .seq its nd }) (List.mem_append_right _ List.mem_cons_self)).1
      have IX : Inv X pins σ H3 s4 := I.call' (ch := fp) I4.os I4.base I4.hok I4.bare fun b hb => by
        obtain ⟨_, a2, _, a4, a5, a6⟩ := hfp b hb
        exact ⟨a4, a2, a5, a6⟩
      have IA := IX.adopt (o := .lst acc) hD3 hDs (Nat.ne_of_gt hDl) (fun x c e => Nat.ne_of_lt (hcD x c e)) (fun p hp => Nat.ne_of_lt (hpD p hp)) ⟨hl3, its.toList, nd, rv3, e4⟩
      obtain ⟨m, nsC, _⟩ := I4.loc
      refine fin D C m s4 _ IA (qn D hD3) nsC (by rw [upd_ne cD]; exact I4.free) ?_ ?_ ?_ ?_
      · exact Nat.ne_of_gt (Nat.lt_of_lt_of_le hDl hCle)
      · exact Nat.le_trans hDs hCle
      · exact fun x c e => Nat.ne_of_lt (Nat.lt_of_lt_of_le (hcD x c e) hCle)
      · exact fun p hp => Nat.ne_of_lt (Nat.lt_of_lt_of_le (hpD p hp) hCle)
    · refine thn (T.item Y rfl rfl rfl hc i _ s3 σ3 H3 _ I3' (fpY' fr3) st3 go) fun r s4 ⟨u, hr, h4⟩ => ?_
      subst hr
      refine thn h4 fun _ s5 ⟨x, H5, I5, r5, y5, st5, fr5⟩ => ?_
      have I5' := I5.pinned (fpY' fr5) (T.obj _ _ st5)
      refine thn (hg cl C s H fp _ s5 σ3 H5 x u _ I5' r5 (step x H5 y5)) fun _ s6 ⟨σ6, H6, I6, q6⟩ => ?_
      refine thn (ht cl C s H fp _ s6 σ6 H6 _ I6 q6) fun b s7 ⟨H7, I7, q7⟩ => ?_
      have back : ∀ {σ' : St} {H' : Hp} {s' : Shared}, Inv Y ([(D, { cls := .type "list", data := .seq its nd })] ++ pinsAt fp s5.heap) σ' H' s' →
          s'.heap.get? D = some { cls := .type "list", data := .seq its nd } ∧ H' D = none ∧ tn (i + 1) s'.heap ∧ ∀ b ∈ fp, H' b = none := fun {σ' H' s'} J7 => by
        have hd := J7.pin (D, { cls := .type "list", data := .seq its nd }) (List.mem_append_right _ (List.mem_append_left _ List.mem_cons_self))
        refine ⟨hd.1, hd.2.1, T.keep _ _ _ st5 fun b hb o e => (J7.pin (b, o) (List.mem_append_right _ (List.mem_append_right _ (mem_pinsAt hb e)))).1, fun b hb => ?_⟩
        obtain ⟨o, e, d⟩ := T.obj _ _ st5 b hb
        exact (J7.pin (b, o) (List.mem_append_right _ (List.mem_append_right _ (mem_pinsAt hb e)))).2.1
      cases b with
      | false =>
        rw [if_neg Bool.false_ne_true]
        rw [if_neg Bool.false_ne_true] at q7
        obtain ⟨m', hm, w7⟩ := hN _ _ _ q7
        obtain ⟨b1, b2, b3, b4⟩ := back I7
        exact ⟨m', hm, i + 1, acc, its, σ6, H7, I7.pins_of (fun p hp => nomatch hp), b3, b4, ⟨nd, b1⟩, b2, rv3, hl3, w7⟩
      | true =>
        rw [if_pos rfl]
        rw [if_pos rfl] at q7
        refine thn (he cl C s H fp _ s7 σ6 H7 _ I7 q7) fun u8 s8 ⟨y, H8, I8, r8, n8⟩ => ?_
        obtain ⟨m', hm, w8⟩ := hN _ _ _ n8
        obtain ⟨b1, b2, b3, b4⟩ := back I8
        have hsz : its.size ≤ sizeLine := by
          have h1 := rv3.length
          have h2 : its.toList.length = its.size := by simp
          omega
        refine wpAny_list_append_plain (hsz := hsz) ⟨nd, b1⟩ fun h' pl' sb' => ?_
        have I8' : Inv Y [] σ6 H8 s8 := I8.pins_of (fun p hp => nomatch hp)
        refine ⟨m', hm, i + 1, acc ++ [y], its.push u8, σ6, H8, I8'.turned (t' := s8.toks) (fun b o hb e => (sb'.2 b hb).trans e) b2 hDC (.inr (by show s.heap.objs.size ≤ D; rw [hDe]; exact Nat.le_refl _)) (fun x c e => Nat.ne_of_lt (hcD x c (hcl x c e))) (fun p hp => absurd (show p ∈ ([] : List (Addr × Obj)) from hp) (by simp)), ?_, b4, pl', b2, ?_, ?_, w8⟩
        · exact T.keep _ _ _ b3 fun b hb o e => (sb'.2 b (fpD b hb)).trans e
        · rw [Array.toList_push]
          exact rv3.append (.cons r8 .nil)
        · rw [List.length_append, List.length_singleton]
          omega
  exact codeAny_compStart_list (loop _ rfl) (T.self _ _ _ _ _ st₁ (loop _ rfl))
theorem pe_lc {tg iter elt : Expr} {ifs : List Expr} {scope : Scope} {pos : Pos} {wi : TI} {g : TG} {tt : TT} {te : TE} {Nt Nf : List Str} {caps : List Nat} (hc : X.calm = true) (S : CompOk X scope Nt Nf caps) (hi : PI X tg iter wi)
    (hg : ∀ cl C s0 H0 ex, PG (cxC X (Nt ++ Nf) scope cl C s0 H0 ex) tg g)
    (ht : ∀ cl C s0 H0 ex, PTs (cxC X (Nt ++ Nf) scope cl C s0 H0 ex) ifs tt)
    (he : ∀ cl C s0 H0 ex, PE (cxC X (Nt ++ Nf) scope cl C s0 H0 ex) elt te)
    (hs : ∀ x, foldedSetIterable iter X.env x = pure x := by intro _; rfl) : PE X (.ListComp elt [⟨tg, iter, ifs, 0⟩] scope pos) (tLC wi g tt te Nt.length caps) := by
  intro pins s σ H Q I h
  obtain ⟨cl, hclos, hcl, hcf⟩ := closure_ok I.ok.has S.fr
  rw [eval_ListComp]
  refine wpAny_comprehension_free (use := none) rfl hs hclos S.kind S.nm (thn (hi pins s σ H _ I h) fun v s1 h1 => thn h1 fun itv s2 h2 => ?_)
  obtain ⟨it, fp, tn, J, H2, e, I2, T, st2, f2, hW⟩ := h2
  subst e
  refine comp_block (RR := fun acc C => compPost (model X.prog X.w) X.A X.xe none (EP X pins σ Q) acc C) (Q := Q) hc S hg ht he hcl hcf I2 T st2 f2 hW ?_
  intro D C m s' H' I' q nsC hCn hCl hCs hCc hCp
  exact ⟨m, nsC, fun h' sb => ⟨.ref D, H', I'.turned (t' := s'.toks) (fun b o hb e => (sb.2 b hb).trans e) hCn hCl (.inr hCs) hCc hCp, rfl, q⟩⟩
theorem ps_lc {tg iter elt : Expr} {ifs : List Expr} {scope : Scope} {pos spos py : Pos} {y : Str} {i : Nat} {wi : TI} {g : TG} {tt : TT} {te : TE} {Nt Nf : List Str} {caps : List Nat} (hc : X.calm = true) (S : CompOk X scope Nt Nf caps) (hi : PI X tg iter wi)
    (hg : ∀ cl C s0 H0 ex, PG (cxC X (Nt ++ Nf) scope cl C s0 H0 ex) tg g)
    (ht : ∀ cl C s0 H0 ex, PTs (cxC X (Nt ++ Nf) scope cl C s0 H0 ex) ifs tt)
    (he : ∀ cl C s0 H0 ex, PE (cxC X (Nt ++ Nf) scope cl C s0 H0 ex) elt te)
    (hN : X.N.Nodup) (hy : X.N[i]? = some y) (hx : Loc X.env.scope y)
    (hsw : swapsWith (.ListComp elt [⟨tg, iter, ifs, 0⟩] scope pos) (some (.Name y py)) spos.line X.env = pure true)
    (hf : X.fn y = true ∨ X.env.scope.names.lookup y = some .local := by first | exact .inl rfl | exact .inr rfl | assumption)
    (hs : ∀ x, foldedSetIterable iter X.env x = pure x := by intro _; rfl) : PS X (.Assign [.Name y py] (.ListComp elt [⟨tg, iter, ifs, 0⟩] scope pos) spos) (tAsg (tLC wi g tt te Nt.length caps) (gName i)) := by
  intro pins s σ H D I h
  obtain ⟨cl, hclos, hcl, hcf⟩ := closure_ok I.ok.has S.fr
  rw [exec_Assign_Name_used _ _ _ _ hsw]
  refine wpAny_bind (wpAny_standAt (wpAny_bind ?_))
  show wpAny _ X.A (do let _ ← comprehension (.ListComp elt [⟨tg, iter, ifs, 0⟩] scope pos) scope X.env _ (newList []) false (eval iter X.env) (some (assign (.Name y py) X.env))) _ _ s
  refine wpAny_bind (wpAny_mono (wpAny_comprehension_free (use := some (assign (.Name y py) X.env)) (Q := fun _ s' => SP X pins D .next s') rfl hs hclos S.kind S.nm
    (thn (hi pins s σ H _ I h) fun v s1 h1 => thn h1 fun itv s2 h2 => ?_)) (fun _ s' hq => wpAny_pure (wpAny_pure hq)) fun _ _ e => e)
  obtain ⟨it, fp, tn, J, H2, e, I2, T, st2, f2, hW⟩ := h2
  subst e
  refine comp_block (RR := fun acc C => compPost (model X.prog X.w) X.A X.xe (some (assign (.Name y py) X.env)) (fun _ s' => SP X pins D .next s') acc C) (Q := fun x H1 => gName i x σ H1 D.nx) hc S hg ht he hcl hcf I2 T st2 f2 hW ?_
  intro l C m s' H' I' q nsC hCn hCl hCs hCc hCp
  show wpAny _ X.A (assign (.Name y py) X.env (.ref l)) _ _ _
  refine wpAny_assign_Name (store_ok2 (v := .ref l) I' hN hy hx rfl (fun s'' I'' ⟨a, sb, ha⟩ => ?_) hf)
  have haC : C ≠ a := by
    rcases ha with z | z
    · rw [z]; exact hCl
    · exact fun e => hCc y a z e.symm
  refine ⟨m, nsC.sameBut sb haC, fun h' sb' => ⟨_, H', I''.turned (t' := s''.toks) (fun b o hb e => (sb'.2 b hb).trans e) hCn hCl (.inr hCs) hCc hCp, q⟩⟩
end
end L2
namespace L2
open PySem PySem.Spec PyProof.Rows
def Its (z : Str) : It := ⟨fun i _ => i < z.cps.size, fun i H x H' => H' = H ∧ ∃ c, z.cps[i]? = some c ∧ x = .str ⟨#[c]⟩, fun i _ => z.cps.size ≤ i⟩
theorem turn_str {P : Program} {w : World} {K : PySem.W.Frag} {tg : Expr} (it : Addr) (z : Str) (t : Tok) (ty : String) (hty : ty = "str_ascii_iterator" ∨ ty = "str_iterator") :
    Turn P w K tg (Its z) [it] it (fun i h => i ≤ z.cps.size ∧ h.IsStrIter it ty z t i) where
  mem := by simp
  obj := fun i h st b hb => by
    have e : b = it := by simpa using hb
    subst e
    obtain ⟨_, o, e, c, d⟩ := st
    exact ⟨o, e, fun v q => by rw [d] at q; cases q⟩
  keep := fun i h h' st k => ⟨st.1, let ⟨o, e, r⟩ := st.2; ⟨o, k it (by simp) o e, r⟩⟩
  item := by
    intro X hP hw hK hc i pins s σ H E I hf st hg
    subst hP hw hK
    obtain ⟨f0, f1, f2, f3, f4, f5⟩ := hf it (by simp)
    obtain ⟨_, st⟩ := st
    have go : ∀ {n : Nat} {Q : Option Value → Shared → Prop}, Walks X.prog X.w X.A it [it] [it] z.cps.size (SignAt z) (fun i h => h.IsStrIter it ty z t i) → wpAny (model X.prog X.w) X.A (pyNext (.ref it)) (fun r s1 => ∃ u, r = some u ∧
      wpAny (model X.prog X.w) X.A (letOwnedTupleGo tg (.ref it) u) (fun _ s2 => ∃ x H', Inv X pins σ H' s2 ∧ RelV x u ∧ (Its z).yld i H x H' ∧ (i + 1 ≤ z.cps.size ∧ s2.heap.IsStrIter it ty z t (i + 1)) ∧ ∀ b ∈ [it], H' b = none) E s1) E s := fun {n Q} W => by
      refine W.item i s _ _ hg st fun v h' tk hv st' kk => ?_
      obtain ⟨c, t', e, rfl⟩ := hv
      have I1 : Inv X pins σ H { s with heap := h', toks := tk } := I.turned (fun b o hb e => kk b o (by simpa using hb) e) f0 f1 f3 f4 f5
      obtain ⟨o, eo, co, d⟩ := id st'
      refine ⟨_, rfl, go_of (s := { s with heap := h', toks := tk }) (n := ty) eo co d (by rcases hty with rfl | rfl <;> decide) ⟨.str ⟨#[c]⟩, H, I1, ⟨_, rfl⟩, ⟨rfl, c, e, rfl⟩, ⟨hg, st'⟩, fun b hb => (hf b hb).1⟩⟩
    rcases hty with rfl | rfl
    · exact go (n := 0) (Q := fun _ _ => True) (Walks.strAscii (I.ok.hd hc) it z t)
    · exact go (n := 0) (Q := fun _ _ => True) (Walks.strWide (I.ok.hd hc) it z t)
  done := by
    intro X hP hw hK hc i pins s σ H E I hf st hg
    subst hP hw hK
    obtain ⟨f0, f1, f2, f3, f4, f5⟩ := hf it (by simp)
    obtain ⟨hi, st⟩ := st
    have e : i = z.cps.size := Nat.le_antisymm hi hg
    subst e
    rcases hty with rfl | rfl
    · exact (Walks.strAscii (prog := X.prog) (w := X.w) (I.ok.hd hc) it z t).done s _ _ st fun h' tk kk => ⟨rfl, I.turned (fun b o hb e => kk b o (by simpa using hb) e) f0 f1 f3 f4 f5⟩
    · exact (Walks.strWide (prog := X.prog) (w := X.w) (I.ok.hd hc) it z t).done s _ _ st fun h' tk kk => ⟨rfl, I.turned (fun b o hb e => kk b o (by simpa using hb) e) f0 f1 f3 f4 f5⟩
  self := fun A i s Q E st h => by
    rcases hty with rfl | rfl
    · exact wpAny_pyIter_striter_ascii st.2 h
    · exact wpAny_pyIter_striter_wide st.2 h
section
variable {X : Cx} {tg : Expr}
def iStr (tl : TE) : TI := fun σ H R => tl σ H fun x H1 => ∃ z, x = .str z ∧ R (Its z) H1
theorem pi_str {l : Expr} {tl : TE} (hl : PE X l tl) : PI X tg l (iStr tl) := by
  intro pins s σ H R I h
  refine thn (hl pins s σ H _ I h) fun v s1 ⟨x, H1, I1, r1, q1⟩ => ?_
  obtain ⟨z, e, q⟩ := q1
  subst e
  obtain ⟨t, rfl⟩ := r1
  refine wpAny_pyIter_strU ?_
  refine ⟨s1.heap.objs.size, [s1.heap.objs.size], _, _, H1, rfl, I1.kept (t' := s1.toks) fun b o e => Heap.get?_push_of_some _ e, turn_str (ty := strIterType z) _ z t (by unfold strIterType; split <;> simp), ⟨Nat.zero_le _, _, Heap.get?_push_size _ rfl, rfl, rfl⟩, fun b hb => ?_, q⟩
  have e : b = s1.heap.objs.size := by simpa using hb
  subst e
  exact I1.fpOk (Nat.le_refl _) (I1.hok.fresh (Nat.le_refl _))
theorem PI.or {it : Expr} {wi wj : TI} (h1 : PI X tg it wi) (h2 : PI X tg it wj) : PI X tg it (fun σ H R => wi σ H R ∨ wj σ H R) := by
  intro pins s σ H R I h
  rcases h with h | h
  · exact h1 pins s σ H R I h
  · exact h2 pins s σ H R I h
end
section
variable {X : Cx}
def strsV (ys : List Str) : List V := ys.map V.str
theorem strsAre_of : ∀ {ys : List Str} {us : List Value}, Vals (strsV ys) us → StrsAre us ys
  | [], _, r => by cases r; exact .nil
  | y :: ys, _, r => by
    cases r with
    | cons r1 r2 =>
      obtain ⟨t, rfl⟩ := r1
      exact .cons _ _ (strsAre_of r2)
def rJoin (K : PySem.W.Frag) : V → List V → Hp → VK → Prop := fun x vs H Q => ∃ z l ys, x = .str z ∧ vs = [.ref l] ∧ SqL K H l (strsV ys) ∧ (ys.map (·.length)).sum + ys.length * z.length ≤ 16777216 ∧ Q (.str (Txt.join z ys)) H
theorem mt_join : MtR X "str.join" (rJoin X.K) := by
  intro pins s σ H x vs v us Q I rx rv h
  obtain ⟨z, l, ys, rfl, rfl, hq, hz, q⟩ := h
  obtain ⟨t, rfl⟩ := rx
  obtain ⟨u, rfl, ru⟩ := rv.one
  cases ru
  obtain ⟨its, r, pl, _⟩ := I.list hq
  exact join_list pl.isList (by simpa using strsAre_of r) hz fun t' k => ⟨.str _, H, I.tok _, ⟨_, rfl⟩, q⟩
def rFind : V → List V → Hp → VK → Prop := fun x vs H Q => ∃ z y, x = .str z ∧ vs = [.str y] ∧ Q (.int (Txt.find z y)) H
theorem mt_find : MtR X "str.find" rFind := by
  intro pins s σ H x vs v us Q I rx rv h
  obtain ⟨z, y, rfl, rfl, q⟩ := h
  obtain ⟨t, rfl⟩ := rx
  obtain ⟨u, rfl, ru⟩ := rv.one
  obtain ⟨t', rfl⟩ := ru
  exact SC.find ⟨.int _, H, I.tok _, ⟨_, rfl⟩, q⟩
def rUpper : V → List V → Hp → VK → Prop := fun x vs H Q => ∃ z, x = .str z ∧ vs = [] ∧ Builtin.Str.tooLong (Txt.upper z).length = false ∧ Q (.str (Txt.upper z)) H
theorem mt_upper : MtR X "str.upper" rUpper := by
  intro pins s σ H x vs v us Q I rx rv h
  obtain ⟨z, rfl, rfl, hz, q⟩ := h
  obtain ⟨t, rfl⟩ := rx
  have hus := rv.zero
  subst hus
  exact SC.upper hz ⟨.str _, H, I.tok _, ⟨_, rfl⟩, q⟩
theorem op_is_bl : OpR X (compareOp .Is) (fun x y H Q => ∃ a b, x = .bl a ∧ y = .bl b ∧ Q (.bl (a == b)) H) := by
  intro pins s σ H x y v u Q I rx ry h
  obtain ⟨a, b, rfl, rfl, q⟩ := h
  cases rx
  cases ry
  exact is_bool ⟨.bl _, H, I, rfl, q⟩
def CBig (i j : Int) : Prop := (i.natAbs < 2 ^ 4096 ∧ j.natAbs < 2 ^ 4096) ∨ CMul i j
theorem bits_le {i : Int} {n : Nat} (h : i.natAbs < 2 ^ n) : Builtin.Int.intBits i ≤ n := by
  unfold Builtin.Int.intBits
  split
  · exact Nat.zero_le _
  · rename_i h0
    have h1 : i.natAbs ≠ 0 := by simpa using h0
    have := (Nat.log2_lt h1).mpr h
    omega
theorem CBig.ok {i j : Int} (h : CBig i j) : IntMulOk i j := by
  rcases h with ⟨h1, h2⟩ | h
  · exact IntMulOk.of_bits (Nat.le_trans (bits_le h1) (by decide)) (Nat.le_trans (bits_le h2) (by decide))
  · exact h.ok
theorem op_big : OpR X (binaryOp .Mult) (rI CBig fun i j => .int (i * j)) := opI fun _ _ _ _ _ _ _ hc q => mul_int q hc.ok
theorem call_str_str : CallR X (.type "str") (fun xs H Q => ∃ z, xs = [.str z] ∧ Q (.str z) H) := by
  intro pins s σ H xs us Q I r h
  obtain ⟨z, rfl, q⟩ := h
  obtain ⟨u, rfl, t, rfl⟩ := vals1 r
  exact PySem.P.str_of_str ⟨.str _, H, I, ⟨_, rfl⟩, q⟩
theorem call_isi : CallR X (.builtin "isinstance") (fun xs H Q => ∃ x n t b, xs = [x, .ty n] ∧ TyOf X.K H x t ∧ PySem.W.kitOne X.K t (.type n) = some b ∧ Q (.bl b) H) := by
  intro pins s σ H xs us Q I r h
  obtain ⟨x, n, t, b, rfl, ty, e, q⟩ := h
  obtain ⟨u, w', rfl, rx, ry⟩ := vals2 r
  cases (show w' = Value.type n from ry)
  exact isinst_ok I rx ty e fun tk => ⟨.bl b, H, I.tok _, rfl, q⟩
def blsV (bs : List Bool) : List V := bs.map V.bl
theorem bls_get : ∀ {bs : List Bool} {us : List Value}, Vals (blsV bs) us → ∀ (i : Nat) (v : Value), us[i]? = some v → ∃ b, bs[i]? = some b ∧ v = .bool b
  | [], _, r, i, v, e => by cases r; simp at e
  | b :: bs, _, r, i, v, e => by
    cases r with
    | cons r1 r2 =>
      cases i with
      | zero =>
        simp at e; subst e
        exact ⟨b, rfl, r1⟩
      | succ i => exact bls_get (bs := bs) r2 i v (by simpa using e)
theorem range_allB : ∀ bs : List Bool, ((List.range bs.length).all fun i => (bs[i]?).getD true) = bs.all id := by
  intro bs
  rw [Bool.eq_iff_iff, List.all_eq_true, List.all_eq_true]
  constructor
  · intro h x hx
    obtain ⟨i, hi, e⟩ := List.getElem_of_mem hx
    have := h i (List.mem_range.mpr hi)
    rw [List.getElem?_eq_getElem hi, e] at this
    exact this
  · intro h i hi
    have hi' : i < bs.length := List.mem_range.mp hi
    rw [List.getElem?_eq_getElem hi']
    exact h _ (List.getElem_mem hi')
theorem call_all : X.calm = true → CallR X (.builtin "all") (fun xs H Q => ∃ l bs, xs = [.ref l] ∧ SqL X.K H l (blsV bs) ∧ Q (.bl (bs.all id)) H) := by
  intro hc pins s σ H xs us Q I r h
  obtain ⟨l, bs, rfl, hq, q⟩ := h
  obtain ⟨u, rfl, ru⟩ := vals1 r
  cases ru
  obtain ⟨its, rv, pl, hz⟩ := I.list hq
  have hl := pl.isList
  have hlt : l < s.heap.objs.size := by obtain ⟨_, e, _⟩ := hl; exact Heap.lt_size e
  have hlen : bs.length = its.length := by have := rv.length; simpa [blsV] using this
  refine call_all_walk (wpAny_pyIter_list hl ?_)
  refine ⟨s.heap.objs.size, [s.heap.objs.size, l], [s.heap.objs.size], its.toArray.size, _, _, fun i => (bs[i]?).getD true, rfl, Walks.list (A := X.A.in1) (I.ok.hd hc) _ l (Nat.ne_of_lt hlt) its.toArray,
    ⟨⟨_, Heap.get?_push_size _ rfl, rfl, rfl⟩, hl.push _⟩, fun i v s' Q' E' hP hQ => ?_, fun h' tk hk => ?_⟩
  · obtain ⟨b, e, rfl⟩ := bls_get rv i v (by simpa using hP)
    simp only [e, Option.getD_some] at hQ
    exact wpAny_truthy_bool hQ
  · have e : ((List.range its.toArray.size).all fun i => (bs[i]?).getD true) = bs.all id := by
      rw [List.size_toArray, ← hlen]; exact range_allB bs
    rw [e]
    refine ⟨.bl _, H, I.kept (h' := h') (t' := tk) fun b o e => ?_, rfl, q⟩
    exact hk b o (by simp; exact Nat.ne_of_lt (Heap.lt_size e)) (Heap.get?_push_of_some _ e)
def rEqS (K : PySem.W.Frag) (neg : Bool) : R2 := fun x y H Q => ∃ l b ys zs, x = .ref l ∧ y = .ref b ∧ SqL K H l (strsV ys) ∧ SqL K H b (strsV zs) ∧ Q (.bl (if neg then !decide (ys = zs) else decide (ys = zs))) H
theorem strs_at : ∀ {ys : List Str} {us : List Value}, Vals (strsV ys) us → ∀ (i : Nat) (h : i < us.length), ∃ y t, ys[i]? = some y ∧ us[i] = .str y t
  | [], _, r, i, h => by cases r; simp at h
  | y :: ys, _, r, i, h => by
    cases r with
    | cons r1 r2 =>
      cases i with
      | zero =>
        obtain ⟨t, rfl⟩ := r1
        exact ⟨y, t, rfl, rfl⟩
      | succ i => exact strs_at (ys := ys) r2 i (by simpa using h)
theorem range_eqS : ∀ (ys zs : List Str), ys.length = zs.length → ((List.range ys.length).all fun i => decide (ys[i]? = zs[i]?)) = decide (ys = zs) := by
  intro ys zs hl
  rw [Bool.eq_iff_iff, List.all_eq_true, decide_eq_true_iff]
  constructor
  · intro h
    refine List.ext_getElem? fun i => ?_
    by_cases hi : i < ys.length
    · exact of_decide_eq_true (h i (List.mem_range.mpr hi))
    · rw [List.getElem?_eq_none (by omega), List.getElem?_eq_none (by omega)]
  · intro h i _
    subst h
    simp
theorem eqS_core {pins : List (Addr × Obj)} {s : Shared} {σ : St} {H : Hp} {l b : Addr} {ys zs : List Str} (hu : X.A.units < cLine) (I : Inv X pins σ H s) (h1 : SqL X.K H l (strsV ys)) (h2 : SqL X.K H b (strsV zs)) :
    SeqAt.RcAt X.A s (.ref l) (.ref b) (decide (ys = zs)) := by
  obtain ⟨is1, r1, p1, _⟩ := I.list h1
  obtain ⟨is2, r2, p2, _⟩ := I.list h2
  have e1 : ys.length = is1.length := by have := r1.length; simpa [strsV] using this
  have e2 : zs.length = is2.length := by have := r2.length; simpa [strsV] using this
  by_cases hl : ys.length = zs.length
  · have := SeqAt.RcAt.lists (A := X.A) (s := s) (e := fun i => decide (ys[i]? = zs[i]?)) p1.isList p2.isList (by simp; omega) hu (fun j h1 h2 => by
      obtain ⟨y, t, ey, eu⟩ := strs_at r1 j (by simpa using h1)
      obtain ⟨z, t', ez, ew⟩ := strs_at r2 j (by simpa using h2)
      have : decide (ys[j]? = zs[j]?) = (y == z) := by rw [ey, ez, Bool.eq_iff_iff]; simp
      rw [this]
      have g1 : is1.toArray[j] = .str y t := by simpa using eu
      have g2 : is2.toArray[j] = .str z t' := by simpa using ew
      rw [g1, g2]
      exact SeqAt.EqAt.str_str y t z t')
    rw [show is1.toArray.size = ys.length by simp [e1], range_eqS ys zs hl] at this
    exact this
  · have hne : ys ≠ zs := fun e => hl (by rw [e])
    rw [decide_eq_false hne]
    exact SeqAt.RcAt.lists_lengths p1.isList p2.isList (by simp; omega) hu
theorem op_eqS (hu : X.A.units < cLine) : OpR X (compareOp .Eq) (rEqS X.K false) := by
  intro pins s σ H x y v u Q I rx ry h
  obtain ⟨l, b, ys, zs, rfl, rfl, h1, h2, q⟩ := h
  cases rx
  cases ry
  exact eqS_core hu I h1 h2 _ _ _ _ ⟨.bl _, H, I, rfl, q⟩
end
section
variable {X : Cx} {e : Expr} {te : TE} {pos : Pos}
def tFmt (te : TE) : TE := fun σ H Q => te σ H fun x H1 => (∃ z, x = .str z ∧ z.length ≤ sizeLine ∧ Q (.str z) H1) ∨ ∃ i : Int, x = .int i ∧ i.natAbs.log2 < 1920 ∧ Q (.str (toString i)) H1
theorem pe_fmt (he : PE X e te) : PE X (.FormattedValue e (-1) none pos) (tFmt te) := by
  intro pins s σ H Q I h
  refine wpAny_FormattedValue_plain (thn (he pins s σ H _ I h) fun v s1 ⟨x, H1, I1, r1, q1⟩ => ?_)
  rcases q1 with ⟨z, rfl, hz, q⟩ | ⟨i, rfl, hi, q⟩
  · obtain ⟨t, rfl⟩ := r1
    exact wpAny_formatField_str ⟨.str z, H1, I1, ⟨_, rfl⟩, q⟩ ⟨.str z, H1, I1.tok _, ⟨_, rfl⟩, q⟩ hz
  · obtain ⟨t, rfl⟩ := r1
    exact wpAny_formatField_int hi ⟨.str _, H1, I1.tok _, ⟨_, rfl⟩, q⟩
inductive PEs (X : Cx) : List Expr → List TE → Prop
  | nil : PEs X [] []
  | cons {e es t ts} : PE X e t → PEs X es ts → PEs X (e :: es) (t :: ts)
def tJoin : List TE → Str → TE
  | [], out => fun _ H Q => out.length ≤ sizeLine ∧ Q (.str out) H
  | t :: r, out => fun σ H Q => t σ H fun x H1 => ∃ y, x = .str y ∧ (out ++ y).length ≤ sizeLine ∧ tJoin r (out ++ y) σ H1 Q
theorem joinParts_ok : ∀ {es : List Expr} {ts : List TE}, PEs X es ts → ∀ (out : Str) (pins : List (Addr × Obj)) (s : Shared) (σ : St) (H : Hp) (Q : VK), Inv X pins σ H s → tJoin ts out σ H Q →
    wpAny (model X.prog X.w) X.A (joinParts out (evalEach es X.env)) (EP X pins σ Q) X.xe s := by
  intro es ts P
  induction P with
  | nil =>
    intro out pins s σ H Q I h
    exact joinParts_nil ⟨.str out, H, I.tok _, ⟨_, rfl⟩, h.2⟩ h.1
  | cons p _ ih =>
    intro out pins s σ H Q I h
    refine joinParts_cons (thn (p pins s σ H _ I h) fun v s1 ⟨x, H1, I1, r1, y, e, hz, q⟩ => ?_)
    subst e
    obtain ⟨t, rfl⟩ := r1
    exact ⟨hz, ih _ pins s1 σ H1 Q I1 q⟩
theorem pe_fstr {a b : Expr} {rest : List Expr} {ts : List TE} (h : PEs X (a :: b :: rest) ts) : PE X (.JoinedStr (a :: b :: rest) pos) (tJoin ts Str.empty) := by
  intro pins s σ H Q I hq
  exact JoinedStr_many (joinParts_ok h Str.empty pins s σ H Q I hq)
theorem pe_fstr1 {a : Expr} {t : TE} (h : PE X a t) : PE X (.JoinedStr [a] pos) t := fun pins s σ H Q I hq => JoinedStr_one (h pins s σ H Q I hq)
end
end L2
namespace L2
open PySem PySem.Spec PyProof.Rows
abbrev New (H : Hp) (o : HO) (Q : VK) : Prop := ∀ p H', H p = none → Same H H' → H' p = some o → Q (.ref p) H'
theorem Same.new {H : Hp} {p : Addr} {o : HO} (h : H p = none) : Same H (upd H p o) := fun b u e => by rw [upd_ne (ne_of_none e h)]; exact e
theorem New.to {H : Hp} {Q : VK} {o : HO} (h : New H o Q) : ∀ p, H p = none → Q (.ref p) (upd H p o) := fun p hp => h p _ hp (Same.new hp) upd_same
section
variable {X : Cx} {es : List Expr} {t : TA} {pos : Pos}
def tLstN (t : TA) : TE := fun σ H Q => t σ H fun xs H1 => xs.length ≤ sizeLine ∧ New H1 (.lst xs) Q
def tTupN (t : TA) : TE := fun σ H Q => t σ H fun xs H1 => xs.length ≤ sizeLine ∧ New H1 (.tup xs) Q
theorem pe_tupN {x1} (h : PA X es t) : PE X (.Tuple es x1 pos) (tTupN t) := by
  intro pins s σ H Q I hq
  refine wpAny_Tuple_spliced (thn (h pos pins s σ H _ I hq) fun us s1 ⟨xs, H1, I1, r, z, q⟩ => ⟨by rw [← r.length]; exact z, ?_⟩)
  refine ⟨.ref s1.heap.objs.size, upd H1 s1.heap.objs.size (.tup xs), I1.laid (t' := s1.toks) (fun b u e => Heap.get?_push_of_some _ e) (Nat.le_refl _) ?_, rfl, New.to q _ (I1.hok.fresh (Nat.le_refl _))⟩
  exact ⟨z, us, r, ⟨_, Heap.get?_push_size _ rfl, rfl, _, rfl⟩⟩
theorem pe_lstN (h : PA X es t) : PE X (.List es pos) (tLstN t) := by
  intro pins s σ H Q I hq
  refine wpAny_List_spliced (thn (h pos pins s σ H _ I hq) fun us s1 ⟨xs, H1, I1, r, z, q⟩ => ⟨by rw [← r.length]; exact z, ?_⟩)
  refine ⟨.ref s1.heap.objs.size, upd H1 s1.heap.objs.size (.lst xs), I1.laid (t' := s1.toks) (fun b u e => Heap.get?_push_of_some _ e) (Nat.le_refl _) ?_, rfl, New.to q _ (I1.hok.fresh (Nat.le_refl _))⟩
  exact ⟨z, us, 0, r, Heap.get?_push_size _ rfl⟩
def rSlN (K : PySem.W.Frag) : V → Option Int → Option Int → Hp → VK → Prop := fun x lo hi H Q => ∃ a xs, x = .ref a ∧ SqL K H a xs ∧ New H (.lst (cutV xs lo hi)) Q
theorem sl_listN : SlR X (rSlN X.K) := by
  intro pins s σ H x v vl vu lo hi sl Q I rx hs pl pu h
  obtain ⟨a, xs, e, h1, h2⟩ := h
  exact sl_list pins s σ H x v vl vu lo hi sl Q I rx hs pl pu ⟨a, xs, e, h1, New.to h2⟩
theorem call_listN : CallR X (.type "list") (fun xs H Q => ∃ p ys, xs = [.ref p] ∧ (SqL X.K H p ys ∨ SqT X.K H p ys) ∧ New H (.lst ys) Q) := by
  intro pins s σ H xs us Q I r h
  obtain ⟨p, ys, e, h1, h2⟩ := h
  exact call_list_of pins s σ H xs us Q I r ⟨p, ys, e, h1, New.to h2⟩
theorem call_tupleN : CallR X (.type "tuple") (fun xs H Q => ∃ p ys, xs = [.ref p] ∧ SqL X.K H p ys ∧ New H (.tup ys) Q) := by
  intro pins s σ H xs us Q I r h
  obtain ⟨p, ys, e, h1, h2⟩ := h
  exact call_tuple_of pins s σ H xs us Q I r ⟨p, ys, e, .inl ⟨h1, New.to h2⟩⟩
end
def rIsi (K : PySem.W.Frag) : List V → Hp → VK → Prop := fun xs H Q => ∃ x n t b, xs = [x, .ty n] ∧ TyOf K H x t ∧ PySem.W.kitOne K t (.type n) = some b ∧ Q (.bl b) H
def tTru (K : PySem.W.Frag) (ta : TE) : TT := fun σ H Q => ta σ H fun x H' => ∃ k, TruV K x H' k ∧ Q k H'
def rLen (K : PySem.W.Frag) : List V → Hp → VK → Prop := fun xs H Q => ∃ x n, xs = [x] ∧ LenV K x H n ∧ Q (.int n) H
def rToInt : List V → Hp → VK → Prop := fun xs H Q => (∃ i, xs = [.int i] ∧ Q (.int i) H) ∨ ∃ k, xs = [.bl k] ∧ Q (.int (if k then 1 else 0)) H
def rIsB : R2 := fun x y H Q => ∃ a b, x = .bl a ∧ y = .bl b ∧ Q (.bl (a == b)) H
def rAll (K : PySem.W.Frag) : List V → Hp → VK → Prop := fun xs H Q => ∃ l bs, xs = [.ref l] ∧ SqL K H l (blsV bs) ∧ Q (.bl (bs.all id)) H
def rInS : R2 := fun x y H Q => ∃ i j, x = .str i ∧ y = .str j ∧ Q (.bl (!(Builtin.Str.occurrences j i 0 j.length 1).isEmpty)) H
def rListN (K : PySem.W.Frag) : List V → Hp → VK → Prop := fun xs H Q => ∃ p ys, xs = [.ref p] ∧ (SqL K H p ys ∨ SqT K H p ys) ∧ New H (.lst ys) Q
def rTupleN (K : PySem.W.Frag) : List V → Hp → VK → Prop := fun xs H Q => ∃ p ys, xs = [.ref p] ∧ SqL K H p ys ∧ New H (.tup ys) Q
section
variable {X : Cx} {a : Expr} {ta : TE}
theorem cl_isi : CallR X (.builtin "isinstance") (rIsi X.K) := call_isi
theorem pt_tru (ha : PE X a ta) (he : ∀ whole, isTrue a X.env whole = (do let v ← whole; standAt a.pos; holding [v] (truthy v))) : PT X a (tTru X.K ta) := pt_truth ha he
theorem cl_len : CallR X (.builtin "len") (rLen X.K) := call_len
theorem cl_int : CallR X (.type "int") rToInt := call_int1
theorem op_isB : OpR X (compareOp .Is) rIsB := op_is_bl
theorem cl_all (h : X.calm = true) : CallR X (.builtin "all") (rAll X.K) := call_all h
theorem op_inS : OpR X (compareOp .In) rInS := op_in_str
theorem cl_list : CallR X (.type "list") (rListN X.K) := call_listN
theorem cl_tuple : CallR X (.type "tuple") (rTupleN X.K) := call_tupleN
end
def rPlus : R2 := fun x y H Q => match x, y with
  | .int i, .int j => Q (.int (i + j)) H
  | .str i, .str j => i.length + j.length ≤ sizeLine ∧ Q (.str (i ++ j)) H
  | .ref l, .ref b => ∃ xs zs, H l = some (.lst xs) ∧ H b = some (.lst zs) ∧ xs.length + zs.length ≤ sizeLine ∧ New H (.lst (xs ++ zs)) Q
  | _, _ => False
def rTimes : R2 := fun x y H Q => match x, y with
  | .int i, .int j => CBig i j ∧ Q (.int (i * j)) H
  | .str z, .int n => MulOk z n ∧ Q (.str (Txt.mul z n)) H
  | _, _ => False
def rStr : List V → Hp → VK → Prop := fun xs H Q => match xs with
  | [.int i] => i.natAbs.log2 < 1920 ∧ Q (.str (toString i)) H
  | [.str z] => Q (.str z) H
  | _ => False
section
variable {X : Cx}
theorem op_plus : OpR X (binaryOp .Add) rPlus := by
  intro pins s σ H x y v u Q I rx ry h
  cases x with
  | int i => cases y with
    | int j => exact op_add pins s σ H _ _ v u Q I rx ry ⟨i, j, rfl, rfl, h⟩
    | _ => exact (show False from h).elim
  | str i => cases y with
    | str j => exact op_add_str pins s σ H _ _ v u Q I rx ry ⟨i, j, rfl, rfl, h⟩
    | _ => exact (show False from h).elim
  | ref l => cases y with
    | ref b =>
      obtain ⟨xs, zs, h1, h2, h3, h4⟩ := h
      exact op_cat pins s σ H _ _ v u Q I rx ry ⟨l, b, xs, zs, rfl, rfl, h1, h2, h3, New.to h4⟩
    | _ => exact (show False from h).elim
  | _ => exact (show False from h).elim
theorem op_times : OpR X (binaryOp .Mult) rTimes := by
  intro pins s σ H x y v u Q I rx ry h
  cases x with
  | int i => cases y with
    | int j => exact op_big pins s σ H _ _ v u Q I rx ry ⟨i, j, rfl, rfl, h⟩
    | _ => exact (show False from h).elim
  | str z => cases y with
    | int n =>
      obtain ⟨t, rfl⟩ := rx
      obtain ⟨t', rfl⟩ := ry
      exact SB.mul h.1 fun t2 k => ⟨.str _, H, I.tok _, ⟨_, rfl⟩, h.2⟩
    | _ => exact (show False from h).elim
  | _ => exact (show False from h).elim
theorem call_str : CallR X (.type "str") rStr := by
  intro pins s σ H xs us Q I r h
  match xs, h with
  | [.int i], h => exact call_str_int pins s σ H _ us Q I r ⟨i, rfl, h⟩
  | [.str z], h => exact call_str_str pins s σ H _ us Q I r ⟨z, rfl, h⟩
theorem comp_ok {scope sc : Scope} {Nt Nf : List Str} {caps : List Nat} (hsc : X.env.scope = sc) (kind : scope.kind = .function) (nc : ∀ y ∈ scope.names, y.2 ≠ .cell) (nm : ∀ y ∈ scope.names, y.2 = .local → scope.names.lookup y.1 = some .local)
    (fr : ∀ y ∈ scope.names, y.2 = .free → sc.names.lookup y.1 = some .cell ∨ sc.names.lookup y.1 = some .free) (cap : caps.map (fun j => X.N[j]?) = Nf.map some) (vis : ∀ x ∈ Nf, scope.names.lookup x = some .free) : CompOk X scope Nt Nf caps :=
  ⟨kind, nc, nm, fun y hy h => by show X.env.scope.names.lookup y.1 = _ ∨ X.env.scope.names.lookup y.1 = _; rw [hsc]; exact fr y hy h, cap, vis⟩
abbrev LcEnd (J : It) (te : TE) (tt : TT) (caps : List Nat) (σ : St) (H : Hp) (Q : VK) : Prop := ∃ W : Nat → Nat → List V → St → Hp → Prop, (∃ m, W 0 m [] (cSt 1 caps σ) H) ∧ ∀ i m acc σ' H', W i m acc σ' H' →
  (J.stop i H' ∧ ∀ l, H' l = none → Q (.ref l) (upd H' l (.lst acc))) ∨
  (J.go i H' ∧ acc.length < sizeLine ∧ ∃ N : List V → St → Hp → Prop, (∀ ac σ2 H2, N ac σ2 H2 → ∃ m', m' < m ∧ W (i + 1) m' ac σ2 H2) ∧ ∀ x H2, J.yld i H' x H2 → gName 0 x σ' H2 fun σ3 H3 => tt σ3 H3 fun b H4 => if b = true then te σ3 H4 fun y H5 => N (acc ++ [y]) σ3 H5 else N acc σ3 H4)
theorem lc_any {J : It} {te : TE} {tt : TT} {caps : List Nat} {σ : St} {H : Hp} {Q : VK} (n : Nat) (hz : n ≤ sizeLine) (Pv : Nat → List V → Hp → Prop) (h0 : Pv 0 [] H) (hl : ∀ i acc H, Pv i acc H → acc.length ≤ i)
    (hgo : ∀ i acc H, i < n → Pv i acc H → J.go i H) (hst : ∀ acc H, Pv n acc H → J.stop n H)
    (hs : ∀ i x acc H H2, i < n → Pv i acc H → J.yld i H x H2 → tt (some x :: capV caps σ) H2 fun b H4 => if b = true then te (some x :: capV caps σ) H4 fun y H5 => Pv (i + 1) (acc ++ [y]) H5 else Pv (i + 1) acc H4)
    (hd : ∀ acc H, Pv n acc H → New H (.lst acc) Q) : LcEnd J te tt caps σ H Q := by
  refine ⟨fun i m acc σ' H => m = n - i ∧ i ≤ n ∧ (∃ v, σ' = v :: capV caps σ) ∧ Pv i acc H, ⟨n, by simp, Nat.zero_le _, ⟨none, rfl⟩, h0⟩, ?_⟩
  rintro i m acc σ' H' ⟨rfl, hi, ⟨v, rfl⟩, p⟩
  by_cases hlt : i < n
  · refine .inr ⟨hgo i acc H' hlt p, ?_, fun ac σ2 H2 => (∃ v, σ2 = v :: capV caps σ) ∧ Pv (i + 1) ac H2, fun ac σ2 H2 ⟨e, p'⟩ => ⟨n - (i + 1), by omega, rfl, hlt, e, p'⟩, fun x H2 y => ?_⟩
    · have := hl i acc H' p
      omega
    · have eN : ∀ ac H5, ((∃ u, some x :: capV caps σ = u :: capV caps σ) ∧ Pv (i + 1) ac H5) = Pv (i + 1) ac H5 := fun ac H5 => propext ⟨And.right, fun p => ⟨⟨_, rfl⟩, p⟩⟩
      show tt (some x :: capV caps σ) H2 fun b H4 => if b = true then te (some x :: capV caps σ) H4 fun y H5 => ((∃ u, some x :: capV caps σ = u :: capV caps σ) ∧ Pv (i + 1) (acc ++ [y]) H5) else ((∃ u, some x :: capV caps σ = u :: capV caps σ) ∧ Pv (i + 1) acc H4)
      simp only [eN]
      exact hs i x acc H' H2 hlt p y
  · have e : i = n := by omega
    subst e
    exact .inl ⟨hst acc H' p, New.to (hd acc H' p)⟩
theorem lc_list {K : PySem.W.Frag} {a : Addr} {xs : List V} {te : TE} {tt : TT} {caps : List Nat} {σ : St} {H : Hp} {Q : VK} (hz : xs.length ≤ sizeLine) (Pv : Nat → List V → Hp → Prop) (h0 : Pv 0 [] H) (hl : ∀ i acc H, Pv i acc H → acc.length ≤ i ∧ SqL K H a xs)
    (hs : ∀ i x acc H, xs[i]? = some x → Pv i acc H → tt (some x :: capV caps σ) H fun b H4 => if b = true then te (some x :: capV caps σ) H4 fun y H5 => Pv (i + 1) (acc ++ [y]) H5 else Pv (i + 1) acc H4)
    (hd : ∀ acc H, Pv xs.length acc H → New H (.lst acc) Q) : LcEnd (Itl K a) te tt caps σ H Q := by
  refine lc_any xs.length hz Pv h0 (fun i acc H p => (hl i acc H p).1) (fun i acc H hi p => ⟨xs, xs[i], (hl i acc H p).2, by simp [hi]⟩) (fun acc H p => ⟨xs, (hl _ acc H p).2, Nat.le_refl _⟩) ?_ hd
  rintro i x acc H1 H2 hi p ⟨rfl, y⟩
  exact hs i x acc _ (y xs (hl i acc _ p).2) p
theorem lc_tup {K : PySem.W.Frag} {a : Addr} {xs : List V} {te : TE} {tt : TT} {caps : List Nat} {σ : St} {H : Hp} {Q : VK} (hz : xs.length ≤ sizeLine) (Pv : Nat → List V → Hp → Prop) (h0 : Pv 0 [] H) (hl : ∀ i acc H, Pv i acc H → acc.length ≤ i ∧ SqT K H a xs)
    (hs : ∀ i x acc H, xs[i]? = some x → Pv i acc H → tt (some x :: capV caps σ) H fun b H4 => if b = true then te (some x :: capV caps σ) H4 fun y H5 => Pv (i + 1) (acc ++ [y]) H5 else Pv (i + 1) acc H4)
    (hd : ∀ acc H, Pv xs.length acc H → New H (.lst acc) Q) : LcEnd (Itt K a) te tt caps σ H Q := by
  refine lc_any xs.length hz Pv h0 (fun i acc H p => (hl i acc H p).1) (fun i acc H hi p => ⟨xs, xs[i], (hl i acc H p).2, by simp [hi]⟩) (fun acc H p => ⟨xs, (hl _ acc H p).2, Nat.le_refl _⟩) ?_ hd
  rintro i x acc H1 H2 hi p ⟨rfl, y⟩
  exact hs i x acc _ (y xs (hl i acc _ p).2) p
theorem lc_str {z : Str} {te : TE} {tt : TT} {caps : List Nat} {σ : St} {H : Hp} {Q : VK} (hz : z.cps.size ≤ sizeLine) (Pv : Nat → List V → Hp → Prop) (h0 : Pv 0 [] H) (hl : ∀ i acc H, Pv i acc H → acc.length ≤ i)
    (hs : ∀ i c acc H, z.cps.toList[i]? = some c → Pv i acc H → tt (some (.str ⟨#[c]⟩) :: capV caps σ) H fun b H4 => if b = true then te (some (.str ⟨#[c]⟩) :: capV caps σ) H4 fun y H5 => Pv (i + 1) (acc ++ [y]) H5 else Pv (i + 1) acc H4)
    (hd : ∀ acc H, Pv z.cps.size acc H → New H (.lst acc) Q) : LcEnd (Its z) te tt caps σ H Q := by
  refine lc_any z.cps.size hz Pv h0 hl (fun i acc H hi p => hi) (fun acc H p => Nat.le_refl _) ?_ hd
  rintro i x acc H1 H2 hi p ⟨rfl, c, hc, rfl⟩
  exact hs i c acc _ (by simpa using hc) p
theorem lc_range {lo : Int} {n : Nat} {te : TE} {tt : TT} {caps : List Nat} {σ : St} {H : Hp} {Q : VK} (hz : n ≤ sizeLine) (Pv : Nat → List V → Hp → Prop) (h0 : Pv 0 [] H) (hl : ∀ i acc H, Pv i acc H → acc.length ≤ i)
    (hs : ∀ i acc H, i < n → Pv i acc H → tt (some (.int (lo + i)) :: capV caps σ) H fun b H4 => if b = true then te (some (.int (lo + i)) :: capV caps σ) H4 fun y H5 => Pv (i + 1) (acc ++ [y]) H5 else Pv (i + 1) acc H4)
    (hd : ∀ acc H, Pv n acc H → New H (.lst acc) Q) : LcEnd (Itr lo n) te tt caps σ H Q := by
  refine lc_any n hz Pv h0 hl (fun i acc H hi p => hi) (fun acc H p => Nat.le_refl _) ?_ hd
  rintro i x acc H1 H2 hi p ⟨rfl, rfl⟩
  exact hs i acc _ hi p
end
end L2
namespace L2
open PySem
theorem ex_self_and {α : Sort _} {a : α} {p : α → Prop} : (∃ x, x = a ∧ p x) ↔ p a := ⟨fun ⟨_, e, h⟩ => e ▸ h, fun h => ⟨a, rfl, h⟩⟩
theorem ex_some_and {α : Type} {a : α} {p : α → Prop} : (∃ v, some (some a) = some (some v) ∧ p v) ↔ p a := ⟨fun ⟨_, e, h⟩ => by cases e; exact h, fun h => ⟨a, rfl, h⟩⟩
theorem ex_int {i : Int} {p : Int → Prop} : (∃ j, V.int i = V.int j ∧ p j) ↔ p i := ⟨fun ⟨_, e, h⟩ => by cases e; exact h, fun h => ⟨i, rfl, h⟩⟩
theorem ex_str {i : Str} {p : Str → Prop} : (∃ j, V.str i = V.str j ∧ p j) ↔ p i := ⟨fun ⟨_, e, h⟩ => by cases e; exact h, fun h => ⟨i, rfl, h⟩⟩
theorem ex_bl {i : Bool} {p : Bool → Prop} : (∃ j, V.bl i = V.bl j ∧ p j) ↔ p i := ⟨fun ⟨_, e, h⟩ => by cases e; exact h, fun h => ⟨i, rfl, h⟩⟩
theorem ex_ref {i : Addr} {p : Addr → Prop} : (∃ j, V.ref i = V.ref j ∧ p j) ↔ p i := ⟨fun ⟨_, e, h⟩ => by cases e; exact h, fun h => ⟨i, rfl, h⟩⟩
def ForEnd (J : It) (g : TG) (tb : TS) (D : Ends) (σ : St) (H1 : Hp) : Prop := ∃ W : Nat → Nat → St → Hp → Prop, (∃ m, W 0 m σ H1) ∧ ∀ i m σ H, W i m σ H →
  (J.stop i H ∧ D.nx σ H) ∨ (J.go i H ∧ ∃ N : St → Hp → Prop, (∀ σ' H', N σ' H' → ∃ m', m' < m ∧ W (i + 1) m' σ' H') ∧ ∀ x H', J.yld i H x H' → g x σ H' fun σ2 H2 => tb { D with nx := N, ct := N, bk := D.nx } σ2 H2)
theorem tFor_def (wi : TI) (g : TG) (tb : TS) (D : Ends) (σ : St) (H : Hp) : tFor wi g tb D σ H = wi σ H fun J H1 => ForEnd J g tb D σ H1 := rfl
def CompEnd (J : It) (g : TG) (tt : TT) (te : TE) (n : Nat) (caps : List Nat) (σ : St) (H : Hp) (Q : VK) : Prop := ∃ W : Nat → Nat → List V → St → Hp → Prop, (∃ m, W 0 m [] (cSt n caps σ) H) ∧ ∀ i m acc σ' H', W i m acc σ' H' →
  (J.stop i H' ∧ ∀ l, H' l = none → Q (.ref l) (upd H' l (.lst acc))) ∨
  (J.go i H' ∧ acc.length < sizeLine ∧ ∃ N : List V → St → Hp → Prop, (∀ ac σ2 H2, N ac σ2 H2 → ∃ m', m' < m ∧ W (i + 1) m' ac σ2 H2) ∧ ∀ x H2, J.yld i H' x H2 → g x σ' H2 fun σ3 H3 => tt σ3 H3 fun b H4 => if b = true then te σ3 H4 fun y H5 => N (acc ++ [y]) σ3 H5 else N acc σ3 H4)
theorem tLC_def (wi : TI) (g : TG) (tt : TT) (te : TE) (n : Nat) (caps : List Nat) (σ : St) (H : Hp) (Q : VK) : tLC wi g tt te n caps σ H Q = wi σ H fun J H1 => CompEnd J g tt te n caps σ H1 Q := rfl
section
variable {K : PySem.W.Frag} {a : Addr} {xs : List V} {te : TE} {tt : TT} {caps : List Nat} {σ : St} {H : Hp} {Q : VK} {z : Str} {lo : Int} {n : Nat}
theorem cc_list (hz : xs.length ≤ sizeLine) (Pv : Nat → List V → Hp → Prop) (h0 : Pv 0 [] H) (hl : ∀ i acc H, Pv i acc H → acc.length ≤ i ∧ SqL K H a xs)
    (hs : ∀ i x acc H, xs[i]? = some x → Pv i acc H → tt (some x :: capV caps σ) H fun b H4 => if b = true then te (some x :: capV caps σ) H4 fun y H5 => Pv (i + 1) (acc ++ [y]) H5 else Pv (i + 1) acc H4)
    (hd : ∀ acc H, Pv xs.length acc H → New H (.lst acc) Q) : CompEnd (Itl K a) (gName 0) tt te 1 caps σ H Q := lc_list hz Pv h0 hl hs hd
theorem cc_tup (hz : xs.length ≤ sizeLine) (Pv : Nat → List V → Hp → Prop) (h0 : Pv 0 [] H) (hl : ∀ i acc H, Pv i acc H → acc.length ≤ i ∧ SqT K H a xs)
    (hs : ∀ i x acc H, xs[i]? = some x → Pv i acc H → tt (some x :: capV caps σ) H fun b H4 => if b = true then te (some x :: capV caps σ) H4 fun y H5 => Pv (i + 1) (acc ++ [y]) H5 else Pv (i + 1) acc H4)
    (hd : ∀ acc H, Pv xs.length acc H → New H (.lst acc) Q) : CompEnd (Itt K a) (gName 0) tt te 1 caps σ H Q := lc_tup hz Pv h0 hl hs hd
theorem cc_str (hz : z.cps.size ≤ sizeLine) (Pv : Nat → List V → Hp → Prop) (h0 : Pv 0 [] H) (hl : ∀ i acc H, Pv i acc H → acc.length ≤ i)
    (hs : ∀ i c acc H, z.cps.toList[i]? = some c → Pv i acc H → tt (some (.str ⟨#[c]⟩) :: capV caps σ) H fun b H4 => if b = true then te (some (.str ⟨#[c]⟩) :: capV caps σ) H4 fun y H5 => Pv (i + 1) (acc ++ [y]) H5 else Pv (i + 1) acc H4)
    (hd : ∀ acc H, Pv z.cps.size acc H → New H (.lst acc) Q) : CompEnd (Its z) (gName 0) tt te 1 caps σ H Q := lc_str hz Pv h0 hl hs hd
theorem cc_range (hz : n ≤ sizeLine) (Pv : Nat → List V → Hp → Prop) (h0 : Pv 0 [] H) (hl : ∀ i acc H, Pv i acc H → acc.length ≤ i)
    (hs : ∀ i acc H, i < n → Pv i acc H → tt (some (.int (lo + i)) :: capV caps σ) H fun b H4 => if b = true then te (some (.int (lo + i)) :: capV caps σ) H4 fun y H5 => Pv (i + 1) (acc ++ [y]) H5 else Pv (i + 1) acc H4)
    (hd : ∀ acc H, Pv n acc H → New H (.lst acc) Q) : CompEnd (Itr lo n) (gName 0) tt te 1 caps σ H Q := lc_range hz Pv h0 hl hs hd
end
theorem cxOf_K {CX : CXT} {P : Program} {w : World} {K : PySem.W.Frag} {mg : Str → Option Value} {base : Heap} {N : List Str} {qual : Str} {scope : Scope} {f : Addr} {cd : Value} {A : Around} {outer : List Env} {s : Shared} {H : Hp} {E : XK} :
    (cxOf CX P w K mg base N qual scope f cd A outer s H E).K = K := rfl
theorem cxC_K {X : Cx} {N : List Str} {scope : Scope} {cl : List (Str × Addr)} {C : Addr} {s0 : Shared} {H0 : Hp} {ex : List Addr} : (cxC X N scope cl C s0 H0 ex).K = X.K := rfl
theorem Same.seqT {K : PySem.W.Frag} {H H' : Hp} {a : Addr} {xs : List V} (e : Same H H') (h : SqT K H a xs) : SqT K H' a xs := by
  rcases h with (h | ⟨o, h⟩) | h
  · exact .inl (.inl (e _ _ h))
  · exact .inl (.inr ⟨o, e _ _ h⟩)
  · exact .inr h
theorem Same.after {H H1 : Hp} {p : Addr} {o : HO} (s : Same H H1) (h : H1 p = none) : Same H (upd H1 p o) := s.trans (Same.new h)
section
variable {X : Cx}
theorem kix_list (K : PySem.W.Frag) (hK : X.K = K := by rfl) : IxR X (rIxL K) := hK ▸ ix_list
theorem kix_tup (K : PySem.W.Frag) (hK : X.K = K := by rfl) : IxR X (rIxT K) := hK ▸ ix_tup
theorem kix_seq (K : PySem.W.Frag) (hK : X.K = K := by rfl) : IxR X (rIx K) := hK ▸ ix_seq
theorem ksl_list (K : PySem.W.Frag) (hK : X.K = K := by rfl) : SlR X (rSlN K) := hK ▸ sl_listN
theorem kcl_isi (K : PySem.W.Frag) (hK : X.K = K := by rfl) : CallR X (.builtin "isinstance") (rIsi K) := hK ▸ cl_isi
theorem kcl_len (K : PySem.W.Frag) (hK : X.K = K := by rfl) : CallR X (.builtin "len") (rLen K) := hK ▸ cl_len
theorem kcl_all (K : PySem.W.Frag) (h : X.calm = true := by rfl) (hK : X.K = K := by rfl) : CallR X (.builtin "all") (rAll K) := hK ▸ cl_all h
theorem kcl_list (K : PySem.W.Frag) (hK : X.K = K := by rfl) : CallR X (.type "list") (rListN K) := hK ▸ cl_list
theorem kcl_tuple (K : PySem.W.Frag) (hK : X.K = K := by rfl) : CallR X (.type "tuple") (rTupleN K) := hK ▸ cl_tuple
theorem kmt_join (K : PySem.W.Frag) (hK : X.K = K := by rfl) : MtR X "str.join" (rJoin K) := hK ▸ mt_join
theorem kop_in (K : PySem.W.Frag) (hK : X.K = K := by rfl) : OpR X (compareOp .In) (rIn K false) := hK ▸ op_in_seq
theorem kop_notIn (K : PySem.W.Frag) (hK : X.K = K := by rfl) : OpR X (compareOp .NotIn) (rIn K true) := hK ▸ op_notIn_seq
theorem kop_eqS (K : PySem.W.Frag) (hu : X.A.units < cLine) (hK : X.K = K := by rfl) : OpR X (compareOp .Eq) (rEqS K false) := hK ▸ op_eqS hu
theorem kpt_tru (K : PySem.W.Frag) {a : Expr} {ta : TE} (ha : PE X a ta) (he : ∀ whole, isTrue a X.env whole = (do let v ← whole; standAt a.pos; holding [v] (truthy v))) (hK : X.K = K := by rfl) : PT X a (tTru K ta) := hK ▸ pt_tru ha he
theorem kpi_list (K : PySem.W.Frag) {tg l : Expr} {tl : TE} (hl : PE X l tl) (hK : X.K = K := by rfl) : PI X tg l (iList K tl) := hK ▸ pi_list hl
theorem kpi_tup (K : PySem.W.Frag) {tg l : Expr} {tl : TE} (hl : PE X l tl) (hK : X.K = K := by rfl) : PI X tg l (iTup K tl) := hK ▸ pi_tup hl
theorem kpg_tup (K : PySem.W.Frag) {pos : Pos} {es : List Expr} {k : Nat} {t : TGs} {n : Nat} (hc : X.calm = true) (h : PGs X es t) (hn : (assignEach es X.env).length = n := by rfl) (hst : (assignEach es X.env).findIdx? (·.1) = none := by rfl) (hK : X.K = K := by rfl) :
    PG X (.Tuple es k pos) (gTup K n t) := hK ▸ pg_tup hc h hn hst
theorem kpe_bm0 (K : PySem.W.Frag) {o : Expr} {to : TE} {name : Str} {apos cpos : Pos} {T id : String} {r : V → List V → Hp → VK → Prop} (pa : PlainAttrs T) (slot : Slot T name id) (hty : typeOf (.builtin id) = pure (.type "method_descriptor")) (hm : MtR X id r) (ho : PE X o to)
    (hbase : attributeBase o name X.env (eval o X.env) = eval o X.env := by rfl) (hline : (apos.endLine == cpos.line) = true := by rfl) (hK : X.K = K := by rfl) : PE X (.Call (.Attribute o name apos) [] [] cpos) (tBM0 K T r to) := hK ▸ pe_bm0 pa slot hty hm ho hbase hline
theorem kpe_bm (K : PySem.W.Frag) {o e : Expr} {es : List Expr} {to : TE} {t : TA} {name : Str} {apos cpos : Pos} {T id : String} {r : V → List V → Hp → VK → Prop} (pa : PlainAttrs T) (slot : Slot T name id) (hty : typeOf (.builtin id) = pure (.type "method_descriptor")) (hm : MtR X id r) (ho : PE X o to) (ha : PA X (e :: es) t)
    (hbase : attributeBase o name X.env (eval o X.env) = eval o X.env := by rfl)
    (hfew : ((backTo cpos (starEach (e :: es) X.env)).all (fun x => !x.1) && (backToKw cpos (keywordEach [] X.env)).all (fun x => x.1.isSome) && decide ((e :: es).length + ([] : List Keyword).length + (if ([] : List Keyword).isEmpty then 0 else 1) < 30)) = true := by rfl)
    (hline : (apos.endLine == cpos.line) = true := by rfl) (hs : starEach (e :: es) X.env = (false, eval e X.env) :: starEach es X.env := by rfl) (hplain : (backTo cpos (starEach es X.env)).any (·.1) = false := by rfl) (hK : X.K = K := by rfl) :
    PE X (.Call (.Attribute o name apos) (e :: es) [] cpos) (tBM K T r to t) := hK ▸ pe_bm pa slot hty hm ho ha hbase hfew hline hs hplain
end
theorem bb_len : bootBuiltins "len" = some (.builtin "len") := by decide +kernel
theorem bb_all : bootBuiltins "all" = some (.builtin "all") := by decide +kernel
theorem bb_any : bootBuiltins "any" = some (.builtin "any") := by decide +kernel
theorem bb_isinstance : bootBuiltins "isinstance" = some (.builtin "isinstance") := by decide +kernel
theorem bb_abs : bootBuiltins "abs" = some (.builtin "abs") := by decide +kernel
theorem bb_sorted : bootBuiltins "sorted" = some (.builtin "sorted") := by decide +kernel
theorem bb_sum : bootBuiltins "sum" = some (.builtin "sum") := by decide +kernel
theorem bb_min : bootBuiltins "min" = some (.builtin "min") := by decide +kernel
theorem bb_max : bootBuiltins "max" = some (.builtin "max") := by decide +kernel
theorem bb_int : bootBuiltins "int" = some (.type "int") := by decide +kernel
theorem bb_str : bootBuiltins "str" = some (.type "str") := by decide +kernel
theorem bb_bool : bootBuiltins "bool" = some (.type "bool") := by decide +kernel
theorem bb_list : bootBuiltins "list" = some (.type "list") := by decide +kernel
theorem bb_tuple : bootBuiltins "tuple" = some (.type "tuple") := by decide +kernel
theorem bb_dict : bootBuiltins "dict" = some (.type "dict") := by decide +kernel
theorem bb_range : bootBuiltins "range" = some (.type "range") := by decide +kernel
theorem bb_enumerate : bootBuiltins "enumerate" = some (.type "enumerate") := by decide +kernel
theorem bb_zip : bootBuiltins "zip" = some (.type "zip") := by decide +kernel
theorem bb_reversed : bootBuiltins "reversed" = some (.type "reversed") := by decide +kernel
theorem bb_set : bootBuiltins "set" = some (.type "set") := by decide +kernel
end L2
namespace L2
open PySem
def Bd (p : Nat) (x : Int) : Prop := x.natAbs < 2 ^ p
theorem Bd.mono {p q : Nat} {x : Int} (h : Bd p x) (l : p ≤ q) : Bd q x := Nat.lt_of_lt_of_le h (Nat.pow_le_pow_right (by decide) l)
theorem Bd.mul {p q : Nat} {x y : Int} (h : Bd p x) (h' : Bd q y) : Bd (p + q) (x * y) := by
  unfold Bd at *
  rw [Int.natAbs_mul, Nat.pow_add]
  exact Nat.mul_lt_mul'' h h'
theorem Bd.add {p : Nat} {x y : Int} (h : Bd p x) (h' : Bd p y) : Bd (p + 1) (x + y) := by
  unfold Bd at *
  have : (x + y).natAbs ≤ x.natAbs + y.natAbs := Int.natAbs_add_le x y
  rw [Nat.pow_succ]
  omega
theorem Bd.big {p q : Nat} {x y : Int} (h : Bd p x) (h' : Bd q y) (hp : p ≤ 4096 := by decide) (hq : q ≤ 4096 := by decide) : CBig x y := .inl ⟨h.mono hp, h'.mono hq⟩
theorem Bd.of {p : Nat} {x : Int} (h0 : 0 ≤ x) (h1 : x < 2 ^ p) : Bd p x := by
  unfold Bd
  have e : ((2 ^ p : Nat) : Int) = (2 : Int) ^ p := by norm_cast
  omega
def stirA (c k : Int) : Int := c % 10 ^ Int.toNat 40 * 48271 + 3 ^ Int.toNat 60 * (k + 1) * (k + 1) + k
def stirB (n : Int) : Int := n * n + 69621 * n
def stirF (c k : Int) : Int := stirB (stirA c k) * stirB (stirA c k) % (10 ^ Int.toNat 61 + 7) / 8
theorem stirA_bd (c k : Int) (h0 : 0 ≤ k) (h1 : k ≤ 2) : Bd 160 (stirA c k) := by
  have e40 : (10 : Int) ^ Int.toNat 40 = 10000000000000000000000000000000000000000 := by decide
  have e60 : (3 : Int) ^ Int.toNat 60 = 42391158275216203514294433201 := by decide
  unfold stirA
  rw [e40, e60]
  have a1 := Int.emod_nonneg c (show (10000000000000000000000000000000000000000 : Int) ≠ 0 by decide)
  have a2 := Int.emod_lt_of_pos c (show (0 : Int) < 10000000000000000000000000000000000000000 by decide)
  generalize c % 10000000000000000000000000000000000000000 = m at a1 a2
  have hk : k = 0 ∨ k = 1 ∨ k = 2 := by omega
  refine Bd.of ?_ ?_
  · rcases hk with rfl | rfl | rfl <;> omega
  · have e : (2 : Int) ^ 160 = 1461501637330902918203684832716283019655932542976 := by decide
    rw [e]
    rcases hk with rfl | rfl | rfl <;> omega
theorem stirB_bd {n : Int} (h : Bd 160 n) : Bd 321 (stirB n) := (h.mul h).add ((show Bd 17 69621 by unfold Bd; decide).mul h |>.mono (by decide))
theorem stirF_nonneg (c k : Int) : 0 ≤ stirF c k := by
  have e : (10 : Int) ^ Int.toNat 61 + 7 = 10000000000000000000000000000000000000000000000000000000000007 := by decide
  unfold stirF
  rw [e]
  have := Int.emod_nonneg (stirB (stirA c k) * stirB (stirA c k)) (show (10000000000000000000000000000000000000000000000000000000000007 : Int) ≠ 0 by decide)
  omega
theorem stirF_bd (c k : Int) : Bd 210 (stirF c k) := by
  have e : (10 : Int) ^ Int.toNat 61 + 7 = 10000000000000000000000000000000000000000000000000000000000007 := by decide
  have h0 := stirF_nonneg c k
  refine Bd.of h0 ?_
  unfold stirF
  rw [e]
  have := Int.emod_lt_of_pos (stirB (stirA c k) * stirB (stirA c k)) (show (0 : Int) < 10000000000000000000000000000000000000000000000000000000000007 by decide)
  have e2 : (2 : Int) ^ 210 = 1645504557321206042154969182557350504982735865633579863348609024 := by decide
  rw [e2]
  omega
end L2
local macro_rules | `(tactic| walk_at "rd") => `(tactic| simp only [L2.tCB, L2.tCons, L2.tNil, L2.tVar, L2.rStr, L2.tNoIf, L2.capV, List.map_nil, List.getElem?_cons_zero, L2.ex_some_and, if_true])
namespace L2
open PySem
theorem le_line {n : Nat} (h : n ≤ 1000000) : n ≤ sizeLine := Nat.le_trans h (by decide)
def PartS (x : V) (y : Str) : Prop := (∃ i : Int, x = .int i ∧ i.natAbs < 2 ^ 64 ∧ y = Str.ofString (toString i)) ∨ x = .str y
inductive PartsS : List V → List Str → Prop
  | nil : PartsS [] []
  | cons {x y xs ys} : PartS x y → PartsS xs ys → PartsS (x :: xs) (y :: ys)
theorem PartsS.get : ∀ {xs : List V} {ys : List Str}, PartsS xs ys → ∀ (i : Nat) (x : V), xs[i]? = some x → ∃ y, ys[i]? = some y ∧ PartS x y
  | _, _, .nil, i, x, e => by simp at e
  | _, _, .cons p r, 0, x, e => by simp at e; subst e; exact ⟨_, rfl, p⟩
  | _, _, .cons p r, i + 1, x, e => r.get i x (by simpa using e)
theorem PartsS.len {xs : List V} {ys : List Str} (p : PartsS xs ys) : xs.length = ys.length := by
  induction p with
  | nil => rfl
  | cons _ _ ih => simp [ih]
theorem strsV_snoc {ys : List Str} {i : Nat} {y : Str} (e : ys[i]? = some y) : strsV (ys.take i) ++ [V.str y] = strsV (ys.take (i + 1)) := by
  unfold strsV
  rw [List.take_add_one, e]
  simp
theorem log_small {i : Int} (h : i.natAbs < 2 ^ 64) : i.natAbs.log2 < 1920 := by
  by_cases h0 : i.natAbs = 0
  · rw [h0]; decide
  · exact Nat.lt_of_lt_of_le ((Nat.log2_lt h0).mpr h) (by decide)
theorem comp_parts {K : PySem.W.Frag} {a : Addr} {xs : List V} {ys : List Str} {σ : St} {H : Hp} {Q : VK} (ha : SqT K H a xs) (hp : PartsS xs ys) (hz : xs.length ≤ 1000000)
    (q : ∀ H', Same H H' → New H' (.lst (strsV ys)) Q) : CompEnd (Itt K a) (gName 0) tNoIf (tCB rStr (tCons (tVar 0) tNil)) 1 [] σ H Q := by
  refine cc_tup (xs := xs) (le_line hz) (fun i acc H2 => Same H H2 ∧ i ≤ xs.length ∧ acc = strsV (ys.take i)) ⟨Same.refl _, Nat.zero_le _, rfl⟩ (fun i acc H2 ⟨s, hi, e⟩ => ⟨?_, s.seqT ha⟩) ?_ ?_
  · subst e
    simp only [strsV, List.length_map, List.length_take]
    omega
  · rintro i x acc H2 hx ⟨s, hi, rfl⟩
    obtain ⟨y, hy, p⟩ := hp.get i x hx
    have hi' : i < xs.length := (List.getElem?_eq_some_iff.mp hx).1
    walk_at "rd"
    rcases p with ⟨n, rfl, hn, rfl⟩ | rfl
    · exact ⟨log_small hn, s, hi', strsV_snoc hy⟩
    · exact ⟨s, hi', strsV_snoc hy⟩
  · rintro acc H2 ⟨s, _, rfl⟩
    have : ys.take xs.length = ys := by rw [hp.len, List.take_length]
    rw [this]
    exact q H2 s
theorem comp_partsL {K : PySem.W.Frag} {a : Addr} {xs : List V} {ys : List Str} {σ : St} {H : Hp} {Q : VK} (ha : SqL K H a xs) (hp : PartsS xs ys) (hz : xs.length ≤ 1000000)
    (q : ∀ H', Same H H' → New H' (.lst (strsV ys)) Q) : CompEnd (Itl K a) (gName 0) tNoIf (tCB rStr (tCons (tVar 0) tNil)) 1 [] σ H Q := by
  refine cc_list (xs := xs) (le_line hz) (fun i acc H2 => Same H H2 ∧ i ≤ xs.length ∧ acc = strsV (ys.take i)) ⟨Same.refl _, Nat.zero_le _, rfl⟩ (fun i acc H2 ⟨s, hi, e⟩ => ⟨?_, s.seq ha⟩) ?_ ?_
  · subst e
    simp only [strsV, List.length_map, List.length_take]
    omega
  · rintro i x acc H2 hx ⟨s, hi, rfl⟩
    obtain ⟨y, hy, p⟩ := hp.get i x hx
    have hi' : i < xs.length := (List.getElem?_eq_some_iff.mp hx).1
    walk_at "rd"
    rcases p with ⟨n, rfl, hn, rfl⟩ | rfl
    · exact ⟨log_small hn, s, hi', strsV_snoc hy⟩
    · exact ⟨s, hi', strsV_snoc hy⟩
  · rintro acc H2 ⟨s, _, rfl⟩
    have : ys.take xs.length = ys := by rw [hp.len, List.take_length]
    rw [this]
    exact q H2 s
theorem str_at (z : Str) (k : Int) (h0 : 0 ≤ k) (h1 : k < z.cps.toList.length) : ∃ c, atI z.cps.toList k = some c := by
  obtain ⟨n, rfl⟩ := Int.eq_ofNat_of_zero_le h0
  exact ⟨_, atI_nat (List.getElem?_eq_getElem (by omega))⟩
theorem letter_at (k : Int) (h0 : 0 ≤ k) (h1 : k < 26) : ∃ c, atI (Str.ofString "abcdefghijklmnopqrstuvwxyz").cps.toList k = some c := by
  have e : (Str.ofString "abcdefghijklmnopqrstuvwxyz").cps.toList.length = 26 := by decide +kernel
  exact str_at _ k h0 (by omega)
theorem sx_ext {x y : Str} (h : x.cps.toList = y.cps.toList) : x = y := by
  cases x; cases y
  simp at h
  simp [h]
theorem sx_app (x y : Str) : (x ++ y).cps.toList = x.cps.toList ++ y.cps.toList := by
  show (x.cps ++ y.cps).toList = _
  simp
theorem sx_empty (x : Str) : Str.empty ++ x = x := sx_ext (by rw [sx_app]; rfl)
theorem sx_assoc (x y z : Str) : x ++ y ++ z = x ++ (y ++ z) := sx_ext (by simp only [sx_app, List.append_assoc])
theorem sx_len (x y : Str) : (x ++ y).length = x.length + y.length := strLen_append x y
theorem sx_one (c : Nat) : (⟨#[c]⟩ : Str).length = 1 := rfl
theorem dig_cases {k : Int} (h0 : 0 ≤ k) (h1 : k < 10) : k = 0 ∨ k = 1 ∨ k = 2 ∨ k = 3 ∨ k = 4 ∨ k = 5 ∨ k = 6 ∨ k = 7 ∨ k = 8 ∨ k = 9 := by omega
theorem dig_len {k : Int} (h0 : 0 ≤ k) (h1 : k < 10) : (Str.ofString (toString k)).length = 1 := by
  rcases dig_cases h0 h1 with rfl | rfl | rfl | rfl | rfl | rfl | rfl | rfl | rfl | rfl <;> decide +kernel
theorem dig_at {k : Int} (h0 : 0 ≤ k) (h1 : k < 10) : ∃ c, atI (Str.ofString "0123456789").cps.toList k = some c ∧ (⟨#[c]⟩ : Str) = Str.ofString (toString k) := by
  have e : atI (Str.ofString "0123456789").cps.toList k = some (48 + k.toNat) ∧ (⟨#[48 + k.toNat]⟩ : Str) = Str.ofString (toString k) := by
    rcases dig_cases h0 h1 with rfl | rfl | rfl | rfl | rfl | rfl | rfl | rfl | rfl | rfl <;> decide +kernel
  exact ⟨_, e.1, e.2⟩
theorem ints_get {ns : List Int} {i : Nat} {v : V} (h : (ns.map V.int)[i]? = some v) : ∃ z, v = .int z := by
  rw [List.getElem?_map] at h
  cases e : ns[i]? with
  | none => rw [e] at h; cases h
  | some z => rw [e] at h; exact ⟨z, (Option.some.inj h).symm⟩
theorem cut_to {ns : List Int} {k : Nat} : cutV (ns.map V.int) none (some (k : Int)) = (ns.take k).map V.int := by
  unfold cutV
  rw [HT.sIx_none, HT.sIx_nat, List.drop_zero, Nat.sub_zero, List.length_map, List.map_take]
  by_cases h : k ≤ ns.length
  · rw [Nat.min_eq_left h]
  · rw [Nat.min_eq_right (by omega), List.take_of_length_le (by simp), List.take_of_length_le (by simp; omega)]
theorem cut_from {ns : List Int} {j k : Nat} : cutV (ns.map V.int) (some (j : Int)) (some (k : Int)) = ((ns.drop j).take (k - j)).map V.int := by
  unfold cutV
  rw [HT.sIx_nat, HT.sIx_nat, List.length_map, List.map_take, List.map_drop]
  by_cases hj : j ≤ ns.length
  · rw [Nat.min_eq_left hj]
    by_cases h : k ≤ ns.length
    · rw [Nat.min_eq_left h]
    · rw [Nat.min_eq_right (by omega), List.take_of_length_le (by simp), List.take_of_length_le (by simp; omega)]
  · have hj' : min j ns.length = ns.length := by omega
    rw [hj', List.drop_of_length_le (by simp), List.drop_of_length_le (l := ns.map V.int) (i := j) (by simp; omega)]
    simp
end L2
namespace L2
open PySem
theorem nox_K {X : Cx} : X.nox.K = X.K := rfl
theorem wish_K {X : Cx} {E : Value → Shared → Prop} : (X.wish E).K = X.K := rfl
section
variable {σ : St} {H : Hp} {Q : VK} {D : Ends} {nn bb cc : St → Hp → Prop} {rr : VK} {t u : TS} {ta tb tc te : TE} {tA tB : TT} {g : TG} {QT : Bool → Hp → Prop} {QA : List V → Hp → Prop} {QS : St → Hp → Prop}
theorem i_seq (h : t ⟨u ⟨nn, rr, bb, cc⟩, rr, bb, cc⟩ σ H) : tSeq t u ⟨nn, rr, bb, cc⟩ σ H := h
theorem i_asg (h : te σ H fun x H1 => g x σ H1 nn) : tAsg te g ⟨nn, rr, bb, cc⟩ σ H := h
theorem i_name {i : Nat} {v : V} (h : QS (σ.set i (some v)) H) : gName i v σ H QS := h
theorem i_var {i : Nat} {v : V} (e : σ[i]? = some (some v)) (h : Q v H) : tVar i σ H Q := ⟨v, e, h⟩
theorem i_c {v : V} (h : Q v H) : tC v σ H Q := h
theorem i_op {r : R2} (h : ta σ H fun x H1 => tb σ H1 fun y H2 => r x y H2 Q) : tOp r ta tb σ H Q := h
theorem i_un {r : V → Hp → VK → Prop} (h : ta σ H fun x H1 => r x H1 Q) : tUn r ta σ H Q := h
theorem i_rU {f : Int → V} {i : Int} (h : Q (f i) H) : rU f (.int i) H Q := ⟨i, rfl, h⟩
theorem i_rI {C : Int → Int → Prop} {f : Int → Int → V} {i j : Int} (c : C i j) (h : Q (f i j) H) : rI C f (.int i) (.int j) H Q := ⟨i, j, rfl, rfl, c, h⟩
theorem i_rI0 {f : Int → Int → V} {i j : Int} (h : Q (f i j) H) : rI0 f (.int i) (.int j) H Q := ⟨i, j, rfl, rfl, h⟩
theorem i_plusI {i j : Int} (h : Q (.int (i + j)) H) : rPlus (.int i) (.int j) H Q := h
theorem i_plusS {x y : Str} (z : x.length + y.length ≤ sizeLine) (h : Q (.str (x ++ y)) H) : rPlus (.str x) (.str y) H Q := ⟨z, h⟩
theorem i_plusL {l b : Addr} {xs zs : List V} (h1 : H l = some (.lst xs)) (h2 : H b = some (.lst zs)) (z : xs.length + zs.length ≤ sizeLine) (h : New H (.lst (xs ++ zs)) Q) : rPlus (.ref l) (.ref b) H Q := ⟨xs, zs, h1, h2, z, h⟩
theorem i_timesI {i j : Int} (c : CBig i j) (h : Q (.int (i * j)) H) : rTimes (.int i) (.int j) H Q := ⟨c, h⟩
theorem i_timesS {x : Str} {j : Int} (c : MulOk x j) (h : Q (.str (Txt.mul x j)) H) : rTimes (.str x) (.int j) H Q := ⟨c, h⟩
theorem decI (i j : Int) : decide (V.int i = V.int j) = decide (i = j) := by rw [Bool.eq_iff_iff]; simp
theorem decS (i j : Str) : decide (V.str i = V.str j) = decide (i = j) := by rw [Bool.eq_iff_iff]; simp
theorem decB (i j : Bool) : decide (V.bl i = V.bl j) = decide (i = j) := by rw [Bool.eq_iff_iff]; simp
theorem i_eqI {i j : Int} (h : Q (.bl (decide (i = j))) H) : rEq (.int i) (.int j) H Q := ⟨rfl, by rw [decI]; exact h⟩
theorem i_eqS {i j : Str} (h : Q (.bl (decide (i = j))) H) : rEq (.str i) (.str j) H Q := ⟨rfl, by rw [decS]; exact h⟩
theorem i_eqB {i j : Bool} (h : Q (.bl (decide (i = j))) H) : rEq (.bl i) (.bl j) H Q := ⟨rfl, by rw [decB]; exact h⟩
theorem i_neI {i j : Int} (h : Q (.bl (!decide (i = j))) H) : rNe (.int i) (.int j) H Q := ⟨rfl, by rw [decI]; exact h⟩
theorem i_neS {i j : Str} (h : Q (.bl (!decide (i = j))) H) : rNe (.str i) (.str j) H Q := ⟨rfl, by rw [decS]; exact h⟩
theorem i_neB {i j : Bool} (h : Q (.bl (!decide (i = j))) H) : rNe (.bl i) (.bl j) H Q := ⟨rfl, by rw [decB]; exact h⟩
theorem i_test (h : te σ H fun x H' => ∃ k, x = .bl k ∧ QT k H') : tTest te σ H QT := h
theorem i_bl {k : Bool} {p : Bool → Prop} (h : p k) : ∃ j, V.bl k = V.bl j ∧ p j := ⟨k, rfl, h⟩
theorem i_ifS (h : tA σ H fun b H1 => if b = true then t D σ H1 else u D σ H1) : tIfS tA t u D σ H := h
theorem i_if (h : tA σ H fun b H1 => if b = true then ta σ H1 Q else tb σ H1 Q) : tIf tA ta tb σ H Q := h
theorem i_ret (h : te σ H rr) : tRet te ⟨nn, rr, bb, cc⟩ σ H := h
theorem i_retN (h : rr .non H) : tRetN ⟨nn, rr, bb, cc⟩ σ H := h
theorem i_next (h : nn σ H) : tNext ⟨nn, rr, bb, cc⟩ σ H := h
theorem i_drop (h : te σ H fun _ H1 => nn σ H1) : tDrop te ⟨nn, rr, bb, cc⟩ σ H := h
theorem i_break (h : bb σ H) : tBreak ⟨nn, rr, bb, cc⟩ σ H := h
theorem i_cont (h : cc σ H) : tCont ⟨nn, rr, bb, cc⟩ σ H := h
theorem i_cons {tr : TA} (h : te σ H fun x H1 => tr σ H1 fun xs H2 => QA (x :: xs) H2) : tCons te tr σ H QA := h
theorem i_nil (h : QA [] H) : tNil σ H QA := h
theorem i_cb {r : List V → Hp → VK → Prop} {ts : TA} (h : ts σ H fun vs H1 => r vs H1 Q) : tCB r ts σ H Q := h
theorem i_call {sp : Sp} {dvs : List V} {E : XK} {ts : TA} (h : ts σ H fun vs H1 => sp (vs ++ dvs) H1 Q E) : tCall sp dvs E ts σ H Q := h
theorem i_lst {ts : TA} (h : ts σ H fun xs H1 => xs.length ≤ sizeLine ∧ New H1 (.lst xs) Q) : tLstN ts σ H Q := h
theorem i_tup {ts : TA} (h : ts σ H fun xs H1 => xs.length ≤ sizeLine ∧ New H1 (.tup xs) Q) : tTupN ts σ H Q := h
theorem i_szA {n : Nat} {P : Prop} (h : n ≤ sizeLine) (p : P) : n ≤ sizeLine ∧ P := ⟨h, p⟩
theorem i_rgA {j : Int} {P : Prop} (h : -(2 ^ 62) ≤ j) (h' : j < 2 ^ 62) (p : P) : -(2 ^ 62) ≤ j ∧ j < 2 ^ 62 ∧ P := ⟨h, h', p⟩
theorem i_noIf (h : QT true H) : tNoIf σ H QT := h
theorem i_not (h : tA σ H fun c H1 => QT (!c) H1) : tNot tA σ H QT := h
theorem i_and (h : tA σ H fun c H1 => if c = true then tB σ H1 QT else QT false H1) : tAnd tA tB σ H QT := h
theorem i_or (h : tA σ H fun c H1 => if c = true then QT true H1 else tB σ H1 QT) : tOr tA tB σ H QT := h
theorem i_andV (h : ta σ H fun x H1 => ∃ c, x = .bl c ∧ if c = true then tb σ H1 Q else Q (.bl false) H1) : tAndV ta tb σ H Q := h
theorem i_orV (h : ta σ H fun x H1 => ∃ c, x = .bl c ∧ if c = true then Q (.bl true) H1 else tb σ H1 Q) : tOrV ta tb σ H Q := h
theorem i_notV (h : ta σ H fun x H1 => ∃ c, x = .bl c ∧ Q (.bl (!c)) H1) : tNotV ta σ H Q := h
theorem i_strI {i : Int} (z : i.natAbs.log2 < 1920) (h : Q (.str (Str.ofString (toString i))) H) : rStr [.int i] H Q := ⟨z, h⟩
theorem i_strS {z : Str} (h : Q (.str z) H) : rStr [.str z] H Q := h
theorem i_fmtS {z : Str} (hz : z.length ≤ sizeLine) (h : te σ H fun x H1 => x = .str z ∧ Q (.str z) H1) (mono : ∀ (P R : VK), (∀ x H, P x H → R x H) → te σ H P → te σ H R) : tFmt te σ H Q := mono _ _ (fun x H1 ⟨e, q⟩ => .inl ⟨z, e, hz, q⟩) h
theorem i_for {wi : TI} (h : wi σ H fun J H1 => ForEnd J g t D σ H1) : tFor wi g t D σ H := h
theorem i_lc {wi : TI} {n : Nat} {caps : List Nat} (h : wi σ H fun J H1 => CompEnd J g tA te n caps σ H1 Q) : tLC wi g tA te n caps σ H Q := h
theorem i_rng1 {R : It → Hp → Prop} {ts : TA} (h : ts σ H fun vs H1 => ∃ j : Int, vs = [.int j] ∧ -(2 ^ 62) ≤ j ∧ j < 2 ^ 62 ∧ R (Itr 0 j.toNat) H1) : iRng1 ts σ H R := h
theorem i_iList {K : PySem.W.Frag} {R : It → Hp → Prop} (h : te σ H fun x H1 => ∃ a, x = .ref a ∧ (∃ xs, SqL K H1 a xs) ∧ R (Itl K a) H1) : iList K te σ H R := h
theorem i_iTup {K : PySem.W.Frag} {R : It → Hp → Prop} (h : te σ H fun x H1 => ∃ a, x = .ref a ∧ (∃ xs, SqT K H1 a xs) ∧ R (Itt K a) H1) : iTup K te σ H R := h
theorem i_iStr {R : It → Hp → Prop} (h : te σ H fun x H1 => ∃ z, x = .str z ∧ R (Its z) H1) : iStr te σ H R := h
theorem i_rng {j : Int} {p : Int → Prop} (h : p j) : ∃ i : Int, [V.int j] = [V.int i] ∧ p i := ⟨j, rfl, h⟩
theorem i_ref {a : Addr} {p : Addr → Prop} (h : p a) : ∃ b, V.ref a = V.ref b ∧ p b := ⟨a, rfl, h⟩
theorem i_sx {z : Str} {p : Str → Prop} (h : p z) : ∃ b, V.str z = V.str b ∧ p b := ⟨z, rfl, h⟩
theorem i_bm {K : PySem.W.Frag} {T : String} {r : V → List V → Hp → VK → Prop} {to : TE} {ts : TA} (h : to σ H fun x H1 => tyV K T x H1 ∧ ts σ H1 fun xs H2 => r x xs H2 Q) : tBM K T r to ts σ H Q := h
theorem i_bm0 {K : PySem.W.Frag} {T : String} {r : V → List V → Hp → VK → Prop} {to : TE} (h : to σ H fun x H1 => tyV K T x H1 ∧ r x [] H1 Q) : tBM0 K T r to σ H Q := h
theorem i_tyS {K : PySem.W.Frag} {z : Str} {P : Prop} (h : P) : tyV K "str" (.str z) H ∧ P := ⟨rfl, h⟩
theorem i_ixL {K : PySem.W.Frag} {p : Addr} {xs : List V} {i : Int} {v : V} (h1 : SqL K H p xs) (h2 : atI xs i = some v) (h : Q v H) : rIxL K (.ref p) (.int i) H Q := ⟨p, xs, i, v, rfl, rfl, h1, h2, h⟩
theorem i_ixT {K : PySem.W.Frag} {p : Addr} {xs : List V} {i : Int} {v : V} (h1 : SqT K H p xs) (h2 : atI xs i = some v) (h : Q v H) : rIxT K (.ref p) (.int i) H Q := ⟨p, xs, i, v, rfl, rfl, h1, h2, h⟩
theorem i_ixS {K : PySem.W.Frag} {z : Str} {i : Int} {c : Nat} (hz : z.length ≤ sizeLine) (h2 : atI z.cps.toList i = some c) (h : Q (.str ⟨#[c]⟩) H) : rIx K (.str z) (.int i) H Q := .inr (.inr ⟨z, i, c, rfl, rfl, hz, h2, h⟩)
theorem i_ix_l {K : PySem.W.Frag} {p : Addr} {xs : List V} {i : Int} {v : V} (h1 : SqL K H p xs) (h2 : atI xs i = some v) (h : Q v H) : rIx K (.ref p) (.int i) H Q := .inl (i_ixL h1 h2 h)
theorem i_ix_t {K : PySem.W.Frag} {p : Addr} {xs : List V} {i : Int} {v : V} (h1 : SqT K H p xs) (h2 : atI xs i = some v) (h : Q v H) : rIx K (.ref p) (.int i) H Q := .inr (.inl (i_ixT h1 h2 h))
theorem i_sl {r : V → Option Int → Option Int → Hp → VK → Prop} {tl th : TO} (h : te σ H fun x H1 => tl σ H1 fun l H2 => th σ H2 fun u H3 => r x l u H3 Q) : tSl r te tl th σ H Q := h
theorem i_nopart {QO : Option Int → Hp → Prop} (h : QO none H) : tNoPart σ H QO := h
theorem i_part {QO : Option Int → Hp → Prop} (h : te σ H fun x H1 => ∃ i, x = .int i ∧ QO (some i) H1) : tPart te σ H QO := h
theorem i_ix1 {i : Int} {p : Int → Prop} (h : p i) : ∃ j, V.int i = V.int j ∧ p j := ⟨i, rfl, h⟩
theorem i_slL {K : PySem.W.Frag} {a : Addr} {xs : List V} {lo hi : Option Int} (h1 : SqL K H a xs) (h : New H (.lst (cutV xs lo hi)) Q) : rSlN K (.ref a) lo hi H Q := ⟨a, xs, rfl, h1, h⟩
theorem i_itT {A B : Prop} (h : A) : if true = true then A else B := iteT h
theorem i_itF {A B : Prop} (h : B) : if false = true then A else B := iteF h
theorem i_itnT {A B : Prop} (h : B) : if (!true) = true then A else B := iteF h
theorem i_itnF {A B : Prop} (h : A) : if (!false) = true then A else B := iteT h
theorem i_itDT {c A B : Prop} [Decidable c] (hc : c) (h : A) : if decide c = true then A else B := by rw [decide_eq_true hc]; exact iteT h
theorem i_itDF {c A B : Prop} [Decidable c] (hc : ¬ c) (h : B) : if decide c = true then A else B := by rw [decide_eq_false hc]; exact iteF h
theorem i_itNT {c A B : Prop} [Decidable c] (hc : ¬ c) (h : A) : if (!decide c) = true then A else B := by rw [decide_eq_false hc]; exact iteT h
theorem i_itNF {c A B : Prop} [Decidable c] (hc : c) (h : B) : if (!decide c) = true then A else B := by rw [decide_eq_true hc]; exact iteF h
theorem i_chain {r r' : R2} (h : ta σ H fun x H1 => tb σ H1 fun y H2 => r x y H2 fun z H3 => ∃ k, z = .bl k ∧ (if k = true then tc σ H3 fun w' H4 => r' y w' H4 Q else Q (.bl false) H3)) : tChain r r' ta tb tc σ H Q := h
theorem i_asgT {K : PySem.W.Frag} {n : Nat} {ts : TGs} {a : Addr} {xs : List V} (h1 : SqT K H a xs) (h2 : xs.length = n) (h : ts xs σ H QS) : gTup K n ts (.ref a) σ H QS := ⟨a, xs, rfl, h1, h2, h⟩
theorem i_gnil (h : QS σ H) : gNil [] σ H QS := ⟨rfl, h⟩
theorem i_gcons {gt : TG} {us : TGs} {v : V} {r : List V} (h : gt v σ H fun σ' H' => us r σ' H' QS) : gCons gt us (v :: r) σ H QS := ⟨v, r, rfl, h⟩
theorem i_find {z y : Str} (h : Q (.int (Txt.find z y)) H) : rFind (.str z) [.str y] H Q := ⟨z, y, rfl, rfl, h⟩
theorem i_isiS {K : PySem.W.Frag} {z : Str} (h : Q (.bl true) H) : rIsi K [V.str z, V.ty "str"] H Q := ⟨_, _, _, true, rfl, .str z, rfl, h⟩
theorem i_isiB {K : PySem.W.Frag} {z : Bool} (h : Q (.bl true) H) : rIsi K [V.bl z, V.ty "bool"] H Q := ⟨_, _, _, true, rfl, .bl z, rfl, h⟩
theorem i_isiI {K : PySem.W.Frag} {z : Int} (h : Q (.bl true) H) : rIsi K [V.int z, V.ty "int"] H Q := ⟨_, _, _, true, rfl, .int z, rfl, h⟩
theorem i_isiIB {K : PySem.W.Frag} {z : Int} (h : Q (.bl false) H) : rIsi K [V.int z, V.ty "bool"] H Q := ⟨_, _, _, false, rfl, .int z, by rfl, h⟩
theorem i_isiL {K : PySem.W.Frag} {a : Addr} {xs : List V} (e : H a = some (.lst xs)) (h : Q (.bl true) H) : rIsi K [V.ref a, V.ty "list"] H Q := ⟨_, _, _, true, rfl, .lst e, rfl, h⟩
theorem i_tru {K : PySem.W.Frag} (h : te σ H fun x H' => ∃ k, TruV K x H' k ∧ QT k H') : tTru K te σ H QT := h
theorem i_truB {K : PySem.W.Frag} {k : Bool} {p : Bool → Prop} (h : p k) : ∃ j, TruV K (.bl k) H j ∧ p j := ⟨k, rfl, h⟩
theorem i_lenS {K : PySem.W.Frag} {z : Str} (hz : z.length ≤ sizeLine) (h : Q (.int z.length) H) : rLen K [V.str z] H Q := ⟨_, _, rfl, ⟨hz, rfl⟩, h⟩
theorem i_lenL {K : PySem.W.Frag} {p : Addr} {xs : List V} (h1 : SqL K H p xs) (h : Q (.int xs.length) H) : rLen K [V.ref p] H Q := ⟨_, _, rfl, .inl ⟨xs, h1, rfl⟩, h⟩
theorem i_lenT {K : PySem.W.Frag} {p : Addr} {xs : List V} (h1 : SqT K H p xs) (h : Q (.int xs.length) H) : rLen K [V.ref p] H Q := ⟨_, _, rfl, .inr ⟨xs, h1, rfl⟩, h⟩
theorem i_intB {k : Bool} (h : Q (.int (if k then 1 else 0)) H) : rToInt [V.bl k] H Q := .inr ⟨k, rfl, h⟩
theorem i_intI {k : Int} (h : Q (.int k) H) : rToInt [V.int k] H Q := .inl ⟨k, rfl, h⟩
theorem i_isB {a b : Bool} (h : Q (.bl (a == b)) H) : rIsB (.bl a) (.bl b) H Q := ⟨a, b, rfl, rfl, h⟩
theorem i_all {K : PySem.W.Frag} {p : Addr} {bs : List Bool} (h1 : SqL K H p (blsV bs)) (h : Q (.bl (bs.all id)) H) : rAll K [V.ref p] H Q := ⟨p, bs, rfl, h1, h⟩
theorem i_inS {x y : Str} (h : Q (.bl (!(Builtin.Str.occurrences y x 0 y.length 1).isEmpty)) H) : rInS (.str x) (.str y) H Q := ⟨x, y, rfl, rfl, h⟩
theorem i_listL {K : PySem.W.Frag} {p : Addr} {ys : List V} (h1 : SqL K H p ys) (h : New H (.lst ys) Q) : rListN K [.ref p] H Q := ⟨p, ys, rfl, .inl h1, h⟩
theorem i_tupleL {K : PySem.W.Frag} {p : Addr} {ys : List V} (h1 : SqL K H p ys) (h : New H (.tup ys) Q) : rTupleN K [.ref p] H Q := ⟨p, ys, rfl, h1, h⟩
theorem i_eqL {K : PySem.W.Frag} {l b : Addr} {ys zs : List Str} (h1 : SqL K H l (strsV ys)) (h2 : SqL K H b (strsV zs)) (h : Q (.bl (decide (ys = zs))) H) : rEqS K false (.ref l) (.ref b) H Q := ⟨l, b, ys, zs, rfl, rfl, h1, h2, h⟩
theorem i_upper {z : Str} (hz : Builtin.Str.tooLong (Txt.upper z).length = false) (h : Q (.str (Txt.upper z)) H) : rUpper (.str z) [] H Q := ⟨z, rfl, rfl, hz, h⟩
end
end L2
namespace L2
open PySem PySem.Spec PyProof.Rows
def rIndex (K : PySem.W.Frag) : V → List V → Hp → VK → Prop := fun x vs H Q => ∃ l ys y j, x = .ref l ∧ vs = [.str y] ∧ SqL K H l (strsV ys) ∧ ys[j]? = some y ∧ (∀ m, m < j → ys[m]? ≠ some y) ∧ Q (.int (j : Nat)) H
section
variable {X : Cx}
theorem kmt_index (K : PySem.W.Frag) (hK : X.K = K := by rfl) : MtR X "list.index" (rIndex K) := by
  subst hK
  intro pins s σ H x vs v us Q I rx rv h
  obtain ⟨l, ys, y, j, rfl, rfl, hq, hj, hno, q⟩ := h
  cases rx
  obtain ⟨u, rfl, ru⟩ := rv.one
  obtain ⟨its, r, pl, hz⟩ := I.list hq
  have hlen : ys.length = its.length := by have := r.length; simpa [strsV] using this
  have hjl : j < its.length := by have := (List.getElem?_eq_some_iff.mp hj).1; omega
  obtain ⟨o, n, e, hc, hd, hs⟩ := pl
  obtain ⟨cls, dd, data, sl⟩ := o
  simp only at hc hd hs
  subst hc hs
  have fy : flatV (.str y) = true := rfl
  have fs : (strsV ys).all flatV = true := by simp [strsV, flatV]
  have at_ : ∀ (m : Nat) (hm : m < its.toArray.size), ∃ z, ys[m]? = some z ∧ eqU (.str y) its.toArray[m] = (z == y) := fun m hm => by
    obtain ⟨z, t, ez, eu⟩ := strs_at r m (by simpa using hm)
    have g1 : its.toArray[m] = .str z t := by simpa using eu
    exact ⟨z, ez, by rw [g1]; rfl⟩
  have hl16 : its.length ≤ sizeLine := by have := r.length; omega
  have hsm : ((j : Nat) : Int) < 2 ^ 63 - 1 := by
    have : (sizeLine : Nat) + 1 < 2 ^ 63 := by rw [sizeLine_eq]; decide
    omega
  refine call_meets F.slot_list_index ⟨_, e, rfl⟩ F.entry_list_index (F.args_list_index_2 _ _) (SeqAt.list_indexAt l its.toArray n dd sl u (eqU (.str y)) j (by simpa using hjl) hsm ?_ ?_) ⟨e, ?_, ⟨.int j, H, I.tok _, ⟨_, rfl⟩, q⟩⟩
  · obtain ⟨z, ez, eq⟩ := at_ j (by simpa using hjl)
    rw [eq]
    rw [hj] at ez
    cases ez
    simp
  · intro m hm hmj
    obtain ⟨z, ez, eq⟩ := at_ m hm
    rw [eq]
    have : z ≠ y := fun e => hno m hmj (by rw [ez, e])
    simpa using this
  · intro w hw
    exact mem_eqAt ru fy r fs w (by simpa using hw)
def rNeE (K : PySem.W.Frag) (neg : Bool) : R2 := fun x y H Q => ∃ l b xs, x = .ref l ∧ y = .ref b ∧ SqL K H l xs ∧ SqL K H b [] ∧ Q (.bl (if neg then !xs.isEmpty else xs.isEmpty)) H
theorem kop_neE (K : PySem.W.Frag) (hu : X.A.units < cLine) (hK : X.K = K := by rfl) : OpR X (compareOp .NotEq) (rNeE K true) := by
  subst hK
  intro pins s σ H x y v u Q I rx ry h
  obtain ⟨l, b, xs, rfl, rfl, h1, h2, q⟩ := h
  cases rx
  cases ry
  obtain ⟨is1, r1, p1, _⟩ := I.list h1
  obtain ⟨is2, r2, p2, _⟩ := I.list h2
  cases r2
  cases r1 with
  | nil =>
    have := SeqAt.RcNeAt.lists (A := X.A) (s := s) (e := fun _ => true) p1.isList p2.isList rfl hu (fun j h1 _ => absurd h1 (by simp)) X.prog X.w X.xe (EP X pins σ Q)
    exact this ⟨.bl _, H, I, rfl, q⟩
  | cons ra rb =>
    have := SeqAt.RcNeAt.lists_lengths (A := X.A) (s := s) p1.isList p2.isList (by simp) hu X.prog X.w X.xe (EP X pins σ Q)
    exact this ⟨.bl _, H, I, rfl, q⟩
theorem kop_eqE (K : PySem.W.Frag) (hu : X.A.units < cLine) (hK : X.K = K := by rfl) : OpR X (compareOp .Eq) (rNeE K false) := by
  subst hK
  intro pins s σ H x y v u Q I rx ry h
  obtain ⟨l, b, xs, rfl, rfl, h1, h2, q⟩ := h
  cases rx
  cases ry
  obtain ⟨is1, r1, p1, _⟩ := I.list h1
  obtain ⟨is2, r2, p2, _⟩ := I.list h2
  cases r2
  cases r1 with
  | nil =>
    have := SeqAt.RcAt.lists (A := X.A) (s := s) (e := fun _ => true) p1.isList p2.isList rfl hu (fun j h1 _ => absurd h1 (by simp)) X.prog X.w X.xe (EP X pins σ Q)
    exact this ⟨.bl _, H, I, rfl, q⟩
  | cons ra rb =>
    have := SeqAt.RcAt.lists_lengths (A := X.A) (s := s) p1.isList p2.isList (by simp) hu X.prog X.w X.xe (EP X pins σ Q)
    exact this ⟨.bl _, H, I, rfl, q⟩
def refsV : List V → Bool := fun xs => xs.all fun x => match x with | .ref _ => true | _ => false
def rEqR (K : PySem.W.Frag) : R2 := fun x y H Q => ∃ l b xs, x = .ref l ∧ y = .ref b ∧ SqL K H l xs ∧ SqL K H b xs ∧ refsV xs = true ∧ Q (.bl true) H
theorem refs_same : ∀ {xs : List V} {us ws : List Value}, Vals xs us → Vals xs ws → refsV xs = true → us = ws
  | [], _, _, .nil, .nil, _ => rfl
  | x :: xs, _, _, .cons r1 t1, .cons r2 t2, h => by
    unfold refsV at h
    rw [List.all_cons, Bool.and_eq_true] at h
    cases x with
    | ref a =>
      cases r1
      cases r2
      rw [refs_same t1 t2 h.2]
    | _ => exact absurd h.1 (by simp)
theorem kop_eqR (K : PySem.W.Frag) (hu : X.A.units < cLine) (hK : X.K = K := by rfl) : OpR X (compareOp .Eq) (rEqR K) := by
  subst hK
  intro pins s σ H x y v u Q I rx ry h
  obtain ⟨l, b, xs, rfl, rfl, h1, h2, hr, q⟩ := h
  cases rx
  cases ry
  obtain ⟨is1, r1, p1, _⟩ := I.list h1
  obtain ⟨is2, r2, p2, _⟩ := I.list h2
  have e := refs_same r1 r2 hr
  subst e
  have := SeqAt.RcAt.lists (A := X.A) (s := s) (e := fun _ => true) p1.isList p2.isList rfl hu (fun j h1 _ => SeqAt.EqAt.same _) X.prog X.w X.xe (EP X pins σ Q)
  refine this ⟨.bl true, H, I, ?_, q⟩
  rw [show ((List.range is1.toArray.size).all fun _ => true) = true by simp]
  rfl
end
theorem cc_pairs {K : PySem.W.Frag} {a : Addr} {xs : List V} {te : TE} {tt : TT} {caps : List Nat} {σ : St} {H : Hp} {Q : VK} (hz : xs.length ≤ sizeLine) (Pv : Nat → List V → Hp → Prop) (h0 : Pv 0 [] H) (hl : ∀ i acc H, Pv i acc H → acc.length ≤ i ∧ SqL K H a xs)
    (hs : ∀ i x acc H, xs[i]? = some x → Pv i acc H → ∃ p u v, x = .ref p ∧ SqT K H p [u, v] ∧ tt (some u :: some v :: capV caps σ) H fun b H4 => if b = true then te (some u :: some v :: capV caps σ) H4 fun y H5 => Pv (i + 1) (acc ++ [y]) H5 else Pv (i + 1) acc H4)
    (hd : ∀ acc H, Pv xs.length acc H → New H (.lst acc) Q) : CompEnd (Itl K a) (gTup K 2 (gCons (gName 0) (gCons (gName 1) gNil))) tt te 2 caps σ H Q := by
  refine ⟨fun i m acc σ' H => m = xs.length - i ∧ i ≤ xs.length ∧ (∃ u v, σ' = u :: v :: capV caps σ) ∧ Pv i acc H, ⟨xs.length, by simp, Nat.zero_le _, ⟨none, none, rfl⟩, h0⟩, ?_⟩
  rintro i m acc σ' H' ⟨rfl, hi, ⟨u0, v0, rfl⟩, p⟩
  obtain ⟨hl1, hq⟩ := hl i acc H' p
  by_cases hlt : i < xs.length
  · refine .inr ⟨⟨xs, xs[i], hq, by simp [hlt]⟩, by omega, fun ac σ2 H2 => (∃ u v, σ2 = u :: v :: capV caps σ) ∧ Pv (i + 1) ac H2, fun ac σ2 H2 ⟨e, p'⟩ => ⟨xs.length - (i + 1), by omega, rfl, hlt, e, p'⟩, fun x H2 y => ?_⟩
    obtain ⟨e, y⟩ := y
    subst e
    obtain ⟨q, u, v, rfl, hT, hst⟩ := hs i x acc _ (y xs hq) p
    have eN : ∀ ac H5, ((∃ u1 v1, some u :: some v :: capV caps σ = u1 :: v1 :: capV caps σ) ∧ Pv (i + 1) ac H5) = Pv (i + 1) ac H5 := fun ac H5 => propext ⟨And.right, fun p => ⟨⟨_, _, rfl⟩, p⟩⟩
    refine ⟨q, [u, v], rfl, hT, rfl, u, [v], rfl, v, [], rfl, rfl, ?_⟩
    show tt (some u :: some v :: capV caps σ) _ fun b H4 => if b = true then te (some u :: some v :: capV caps σ) H4 fun y H5 => ((∃ u1 v1, some u :: some v :: capV caps σ = u1 :: v1 :: capV caps σ) ∧ Pv (i + 1) (acc ++ [y]) H5) else ((∃ u1 v1, some u :: some v :: capV caps σ = u1 :: v1 :: capV caps σ) ∧ Pv (i + 1) acc H4)
    simp only [eN]
    exact hst
  · have e : i = xs.length := by omega
    subst e
    exact .inl ⟨⟨xs, hq, Nat.le_refl _⟩, New.to (hd acc H' p)⟩
section
variable {σ : St} {H : Hp} {Q : VK}
theorem i_index {K : PySem.W.Frag} {l : Addr} {ys : List Str} {y : Str} {j : Nat} (h1 : SqL K H l (strsV ys)) (h2 : ys[j]? = some y) (h3 : ∀ m, m < j → ys[m]? ≠ some y) (h : Q (.int (j : Nat)) H) : rIndex K (.ref l) [.str y] H Q := ⟨l, ys, y, j, rfl, rfl, h1, h2, h3, h⟩
theorem i_neE {K : PySem.W.Frag} {l b : Addr} {xs : List V} (h1 : SqL K H l xs) (h2 : SqL K H b []) (h : Q (.bl (!xs.isEmpty)) H) : rNeE K true (.ref l) (.ref b) H Q := ⟨l, b, xs, rfl, rfl, h1, h2, h⟩
theorem i_eqE {K : PySem.W.Frag} {l b : Addr} {xs : List V} (h1 : SqL K H l xs) (h2 : SqL K H b []) (h : Q (.bl xs.isEmpty) H) : rNeE K false (.ref l) (.ref b) H Q := ⟨l, b, xs, rfl, rfl, h1, h2, h⟩
theorem i_eqR {K : PySem.W.Frag} {l b : Addr} {xs : List V} (h1 : SqL K H l xs) (h2 : SqL K H b xs) (hr : refsV xs = true) (h : Q (.bl true) H) : rEqR K (.ref l) (.ref b) H Q := ⟨l, b, xs, rfl, rfl, h1, h2, hr, h⟩
theorem i_append {l : Addr} {xs : List V} {y : V} (h1 : H l = some (.lst xs)) (hz : xs.length < sizeLine) (h : Q .non (upd H l (.lst (xs ++ [y])))) : rAppend (.ref l) [y] H Q := ⟨l, xs, y, rfl, rfl, h1, hz, h⟩
theorem i_pop {l : Addr} {xs : List V} {y : V} (h1 : H l = some (.lst (xs ++ [y]))) (h : Q y (upd H l (.lst xs))) : rPop (.ref l) [] H Q := ⟨l, xs ++ [y], y, rfl, rfl, h1, by simp, by simpa using h⟩
theorem i_tyL {K : PySem.W.Frag} {l : Addr} {xs : List V} {P : Prop} (h1 : SqL K H l xs) (h : P) : tyV K "list" (.ref l) H ∧ P := ⟨.inl ⟨rfl, xs, h1⟩, h⟩
end
def Tups (H H' : Hp) : Prop := ∀ b xs, H b = some (.tup xs) → H' b = some (.tup xs)
theorem Same.tups {H H' : Hp} (s : Same H H') : Tups H H' := fun b xs h => s b _ h
theorem Tups.trans {H H1 H2 : Hp} (a : Tups H H1) (b : Tups H1 H2) : Tups H H2 := fun c xs h => b c xs (a c xs h)
theorem Tups.refl (H : Hp) : Tups H H := fun _ _ h => h
theorem Tups.upd {H : Hp} {l : Addr} {xs : List V} {o : HO} (h : H l = some (.lst xs)) : Tups H (upd H l o) := fun b ys e => by rw [upd_ne (ne_of e h (fun z => nomatch z))]; exact e
theorem vac {P : Program} {w : World} {K : PySem.W.Frag} {mg : Str → Option Value} {base : Heap} {CX : CXT} {k : Nat} {f : Addr} {fd : FuncData} {ps : List Str} {sp : Sp} (h : ∀ vs H Q E, ¬ sp vs H Q E) : FnOk P w K mg base CX k f fd ps sp :=
  ⟨fun vs H Q E q => (h _ _ _ _ q).elim, fun A outer s H args us vs Q E _ _ _ _ q => (h _ _ _ _ q).elim⟩
end L2
namespace L2
open PySem
theorem Same.updNew {H H1 : Hp} {l : Addr} {o : HO} (s : Same H H1) (h : H l = none) : Same H (upd H1 l o) := fun b u e => by rw [upd_ne (ne_of_none e h)]; exact s b u e
inductive Ex where
  | num (i : Int)
  | box (n : Str)
  | two (k : Bool) (a b : Ex)
def Ex.h : Ex → Nat
  | .num _ => 0
  | .box _ => 0
  | .two _ a b => max a.h b.h + 1
def Ex.sz : Ex → Nat
  | .num _ => 1
  | .box _ => 1
  | .two _ a b => a.sz + b.sz + 1
def Ex.ok (ns : List Str) : Ex → Prop
  | .num i => 0 ≤ i ∧ i < 10
  | .box n => n ∈ ns
  | .two _ a b => a.ok ns ∧ b.ok ns
def markS (k : Bool) : Str := if k then "plus" else "less"
def Ex.At (H : Hp) : Ex → V → Prop
  | .num i, v => ∃ a, v = .ref a ∧ H a = some (.tup [.str "number", .int i])
  | .box n, v => ∃ a, v = .ref a ∧ H a = some (.tup [.str "box", .str n])
  | .two k e f, v => ∃ a x y, v = .ref a ∧ H a = some (.tup [.str (markS k), x, y]) ∧ e.At H x ∧ f.At H y
theorem Ex.At.mono {H H' : Hp} (t : Tups H H') : ∀ {e : Ex} {v : V}, e.At H v → e.At H' v
  | .num _, _, ⟨a, h1, h2⟩ => ⟨a, h1, t _ _ h2⟩
  | .box _, _, ⟨a, h1, h2⟩ => ⟨a, h1, t _ _ h2⟩
  | .two _ e f, _, ⟨a, x, y, h1, h2, h3, h4⟩ => ⟨a, x, y, h1, t _ _ h2, Ex.At.mono t h3, Ex.At.mono t h4⟩
def bval : List Str → List Int → Str → Int
  | m :: ns, v :: vs, n => if m = n then v else bval ns vs n
  | _, _, _ => 0
def Ex.ev (ns : List Str) (vs : List Int) : Ex → Int
  | .num i => i
  | .box n => bval ns vs n
  | .two k a b => if k then a.ev ns vs + b.ev ns vs else a.ev ns vs - b.ev ns vs
theorem bval_ix : ∀ {ns : List Str} {vs : List Int} {n : Str}, n ∈ ns → ns.length ≤ vs.length → ∃ j : Nat, ns[j]? = some n ∧ (∀ m : Nat, m < j → ns[m]? ≠ some n) ∧ vs[j]? = some (bval ns vs n)
  | [], _, _, h, _ => nomatch h
  | m :: ns, [], n, _, hl => by simp at hl
  | m :: ns, v :: vs, n, h, hl => by
    by_cases e : m = n
    · exact ⟨0, by simp [e], fun m h => absurd h (Nat.not_lt_zero _), by simp [bval, e]⟩
    · have h' : n ∈ ns := by
        rcases List.mem_cons.mp h with z | z
        · exact absurd z.symm e
        · exact z
      obtain ⟨j, h1, h2, h3⟩ := bval_ix (vs := vs) h' (by simpa using hl)
      refine ⟨j + 1, by simpa using h1, fun k hk => ?_, by simpa [bval, e] using h3⟩
      cases k with
      | zero => simpa using e
      | succ k => simpa using h2 k (by omega)
def fsum : List Str → List Int → Str → Int
  | m :: ns, v :: vs, n => (if m = n then v else 0) + fsum ns vs n
  | _, _, _ => 0
theorem fsum_no : ∀ {ns : List Str} {vs : List Int} {n : Str}, n ∉ ns → fsum ns vs n = 0
  | [], _, _, _ => by simp [fsum]
  | _ :: _, [], _, _ => by simp [fsum]
  | m :: ns, v :: vs, n, h => by
    have h1 : m ≠ n := fun e => h (by simp [e])
    have h2 : n ∉ ns := fun e => h (List.mem_cons_of_mem _ e)
    simp [fsum, h1, fsum_no h2]
theorem fsum_bval : ∀ {ns : List Str} {vs : List Int} {n : Str}, ns.Nodup → fsum ns vs n = bval ns vs n
  | [], _, _, _ => by simp [fsum, bval]
  | _ :: _, [], _, _ => by simp [fsum, bval]
  | m :: ns, v :: vs, n, h => by
    obtain ⟨h1, h2⟩ := List.nodup_cons.mp h
    by_cases e : m = n
    · subst e
      simp [fsum, bval, fsum_no h1]
    · simp [fsum, bval, e, fsum_bval h2]
theorem fsum_take : ∀ {ns : List Str} {vs : List Int} {n m : Str} {v : Int} {i : Nat}, ns[i]? = some m → vs[i]? = some v → fsum (ns.take (i + 1)) (vs.take (i + 1)) n = fsum (ns.take i) (vs.take i) n + if m = n then v else 0
  | [], _, _, _, _, _, h, _ => by simp at h
  | _ :: _, [], _, _, _, _, _, h => by simp at h
  | a :: ns, b :: vs, n, m, v, 0, h1, h2 => by
    simp at h1 h2
    subst h1 h2
    simp [fsum]
  | a :: ns, b :: vs, n, m, v, i + 1, h1, h2 => by
    have ih := fsum_take (ns := ns) (vs := vs) (n := n) (m := m) (v := v) (i := i) (by simpa using h1) (by simpa using h2)
    rw [List.take_succ_cons, List.take_succ_cons, List.take_succ_cons, List.take_succ_cons]
    simp only [fsum]
    rw [ih]
    omega
inductive Boxes (H : Hp) : List V → List Str → Prop
  | nil : Boxes H [] []
  | cons {p : Addr} {n : Str} {z : Int} {xs ns} : H p = some (.tup [.str n, .int z]) → Boxes H xs ns → Boxes H (.ref p :: xs) (n :: ns)
theorem Boxes.mono {H H' : Hp} (t : Tups H H') {xs : List V} {ns : List Str} (b : Boxes H xs ns) : Boxes H' xs ns := by
  induction b with
  | nil => exact .nil
  | cons h _ ih => exact .cons (t _ _ h) ih
theorem Boxes.len {H : Hp} {xs : List V} {ns : List Str} (b : Boxes H xs ns) : xs.length = ns.length := by
  induction b with
  | nil => rfl
  | cons _ _ ih => simp [ih]
theorem Boxes.get {H : Hp} : ∀ {xs : List V} {ns : List Str}, Boxes H xs ns → ∀ (i : Nat) (x : V), xs[i]? = some x → ∃ (p : Addr) (n : Str) (z : Int), x = .ref p ∧ ns[i]? = some n ∧ H p = some (.tup [.str n, .int z])
  | _, _, .nil, i, x, e => by simp at e
  | _, _, .cons h r, 0, x, e => by simp at e; subst e; exact ⟨_, _, _, rfl, rfl, h⟩
  | _, _, .cons h r, i + 1, x, e => r.get i x (by simpa using e)
theorem Boxes.snoc {H : Hp} {xs : List V} {ns : List Str} (b : Boxes H xs ns) {p : Addr} {n : Str} {z : Int} (h : H p = some (.tup [.str n, .int z])) : Boxes H (xs ++ [.ref p]) (ns ++ [n]) := by
  induction b with
  | nil => exact .cons h .nil
  | cons h' _ ih => exact .cons h' ih
theorem Boxes.refs {H : Hp} {xs : List V} {ns : List Str} (b : Boxes H xs ns) : refsV xs = true := by
  induction b with
  | nil => rfl
  | cons _ _ ih => simpa [refsV] using ih
theorem ints_at {vs : List Int} {j : Nat} {v : Int} (h : vs[j]? = some v) : atI (vs.map V.int) (j : Int) = some (.int v) := atI_nat (by rw [List.getElem?_map, h]; rfl)
inductive Pile (H : Hp) : List V → List (Ex × Int) → Prop
  | nil : Pile H [] []
  | snoc {p : Addr} {x : V} {e : Ex} {s : Int} {xs ps} : Pile H xs ps → H p = some (.tup [x, .int s]) → e.At H x → (s = 1 ∨ s = -1) → Pile H (xs ++ [.ref p]) ((e, s) :: ps)
theorem Pile.mono {H H' : Hp} (t : Tups H H') {xs : List V} {ps : List (Ex × Int)} (b : Pile H xs ps) : Pile H' xs ps := by
  induction b with
  | nil => exact .nil
  | snoc _ h1 h2 h3 ih => exact .snoc ih (t _ _ h1) (h2.mono t) h3
def psum (ns : List Str) (vs : List Int) : List (Ex × Int) → Int
  | [] => 0
  | (e, s) :: r => s * e.ev ns vs + psum ns vs r
def psz : List (Ex × Int) → Nat
  | [] => 0
  | (e, _) :: r => e.sz + psz r
def pok (ns : List Str) : List (Ex × Int) → Prop
  | [] => True
  | (e, _) :: r => e.ok ns ∧ pok ns r
theorem Pile.lenLe {H : Hp} {xs : List V} {ps : List (Ex × Int)} (b : Pile H xs ps) : xs.length ≤ psz ps := by
  induction b with
  | nil => exact Nat.le_refl _
  | @snoc p x e s xs ps _ _ _ _ ih =>
    rw [List.length_append, List.length_singleton]
    have : 1 ≤ e.sz := by cases e <;> simp [Ex.sz] <;> omega
    simp only [psz]
    omega
theorem Ex.sz_le : ∀ (e : Ex), e.sz < 2 ^ (e.h + 1)
  | .num _ => by simp [Ex.sz, Ex.h]
  | .box _ => by simp [Ex.sz, Ex.h]
  | .two _ a b => by
    have h1 := Ex.sz_le a
    have h2 := Ex.sz_le b
    have h3 : 2 ^ (a.h + 1) ≤ 2 ^ (max a.h b.h + 1) := Nat.pow_le_pow_right (by decide) (by omega)
    have h4 : 2 ^ (b.h + 1) ≤ 2 ^ (max a.h b.h + 1) := Nat.pow_le_pow_right (by decide) (by omega)
    simp only [Ex.sz, Ex.h]
    rw [Nat.pow_succ 2 (max a.h b.h + 1)]
    omega
end L2
namespace L2
open PySem PySem.Spec PyProof.Rows
def rEqB (K : PySem.W.Frag) : R2 := fun x y H Q => ∃ l b ys zs, x = .ref l ∧ y = .ref b ∧ SqL K H l (blsV ys) ∧ SqL K H b (blsV zs) ∧ ys.length = zs.length ∧ Q (.bl (decide (ys = zs))) H
theorem range_eqB : ∀ (ys zs : List Bool), ys.length = zs.length → ((List.range ys.length).all fun i => decide (ys[i]? = zs[i]?)) = decide (ys = zs) := by
  intro ys zs hl
  rw [Bool.eq_iff_iff, List.all_eq_true, decide_eq_true_iff]
  constructor
  · intro h
    refine List.ext_getElem? fun i => ?_
    by_cases hi : i < ys.length
    · exact of_decide_eq_true (h i (List.mem_range.mpr hi))
    · rw [List.getElem?_eq_none (by omega), List.getElem?_eq_none (by omega)]
  · intro h i _
    subst h
    simp
theorem kop_eqB {X : Cx} (K : PySem.W.Frag) (hu : X.A.units < cLine) (hK : X.K = K := by rfl) : OpR X (compareOp .Eq) (rEqB K) := by
  subst hK
  intro pins s σ H x y v u Q I rx ry h
  obtain ⟨l, b, ys, zs, rfl, rfl, h1, h2, hl, q⟩ := h
  cases rx
  cases ry
  obtain ⟨is1, r1, p1, _⟩ := I.list h1
  obtain ⟨is2, r2, p2, _⟩ := I.list h2
  have e1 : ys.length = is1.length := by have := r1.length; simpa [blsV] using this
  have e2 : zs.length = is2.length := by have := r2.length; simpa [blsV] using this
  have := SeqAt.RcAt.lists (A := X.A) (s := s) (e := fun i => decide (ys[i]? = zs[i]?)) p1.isList p2.isList (by simp; omega) hu (fun j h1 h2 => by
    obtain ⟨y, ey, eu⟩ := bls_get r1 j (is1.toArray[j]) (by simpa using List.getElem?_eq_getElem (by simpa using h1))
    obtain ⟨z, ez, ew⟩ := bls_get r2 j (is2.toArray[j]) (by simpa using List.getElem?_eq_getElem (by simpa using h2))
    have : decide (ys[j]? = zs[j]?) = (y == z) := by rw [ey, ez, Bool.eq_iff_iff]; simp
    rw [this, eu, ew]
    exact SeqAt.EqAt.bool_bool y z)
  rw [show is1.toArray.size = ys.length by simp [e1], range_eqB ys zs hl] at this
  exact this _ _ _ _ ⟨.bl _, H, I, rfl, q⟩
theorem i_eqBs {K : PySem.W.Frag} {H : Hp} {Q : VK} {l b : Addr} {ys zs : List Bool} (h1 : SqL K H l (blsV ys)) (h2 : SqL K H b (blsV zs)) (hl : ys.length = zs.length) (h : Q (.bl (decide (ys = zs))) H) : rEqB K (.ref l) (.ref b) H Q := ⟨l, b, ys, zs, rfl, rfl, h1, h2, hl, h⟩
inductive Cd where
  | cmp (k : Bool) (a b : Ex)
  | nt (c : Cd)
  | both (c d : Cd)
def Cd.h : Cd → Nat
  | .cmp _ _ _ => 0
  | .nt c => c.h + 1
  | .both c d => max c.h d.h + 1
def Cd.ok (ns : List Str) (n : Nat) : Cd → Prop
  | .cmp _ a b => (a.ok ns ∧ a.h ≤ n) ∧ b.ok ns ∧ b.h ≤ n
  | .nt c => c.ok ns n
  | .both c d => c.ok ns n ∧ d.ok ns n
def markC (k : Bool) : Str := if k then "same" else "under"
def Cd.At (H : Hp) : Cd → V → Prop
  | .cmp k e f, v => ∃ a x y, v = .ref a ∧ H a = some (.tup [.str (markC k), x, y]) ∧ e.At H x ∧ f.At H y
  | .nt c, v => ∃ a x, v = .ref a ∧ H a = some (.tup [.str "not", x]) ∧ c.At H x
  | .both c d, v => ∃ a x y, v = .ref a ∧ H a = some (.tup [.str "both", x, y]) ∧ c.At H x ∧ d.At H y
theorem Cd.At.mono {H H' : Hp} (t : Tups H H') : ∀ {c : Cd} {v : V}, c.At H v → c.At H' v
  | .cmp _ e f, _, ⟨a, x, y, h1, h2, h3, h4⟩ => ⟨a, x, y, h1, t _ _ h2, h3.mono t, h4.mono t⟩
  | .nt c, _, ⟨a, x, h1, h2, h3⟩ => ⟨a, x, h1, t _ _ h2, Cd.At.mono t h3⟩
  | .both c d, _, ⟨a, x, y, h1, h2, h3, h4⟩ => ⟨a, x, y, h1, t _ _ h2, Cd.At.mono t h3, Cd.At.mono t h4⟩
def Cd.ev (ns : List Str) (vs : List Int) : Cd → Bool
  | .cmp k a b => if k then decide (a.ev ns vs = b.ev ns vs) else decide (a.ev ns vs < b.ev ns vs)
  | .nt c => !c.ev ns vs
  | .both c d => c.ev ns vs && d.ev ns vs
end L2
namespace L2
open PySem PySem.Spec PyProof.Rows
def rSplit : V → List V → Hp → VK → Prop := fun x vs H Q => ∃ z y, x = .str z ∧ vs = [.str y] ∧ (y.length == 0) = false ∧ z.length + 2 ≤ sizeLine ∧ New H (.lst (strsV (Txt.split z y))) Q
theorem vals_strs : ∀ (l : List (Str × Tok)), Vals (strsV (l.map (·.1))) (strValues l)
  | [] => .nil
  | (x, t) :: l => .cons ⟨t, rfl⟩ (vals_strs l)
theorem mt_split {X : Cx} : MtR X "str.split" rSplit := by
  intro pins s σ H x vs v us Q I rx rv h
  obtain ⟨z, y, rfl, rfl, hy, hz, q⟩ := h
  obtain ⟨t, rfl⟩ := rx
  obtain ⟨u, rfl, ru⟩ := rv.one
  obtain ⟨t', rfl⟩ := ru
  have hle := split_le z y
  have fin : ∀ (l : List (Str × Tok)) (k : Nat), l.map (·.1) = Txt.split z y → EP X pins σ Q (.ref s.heap.objs.size) { s with heap := s.heap.push { cls := .type "list", data := .seq (strValues l).toArray }, toks := k } := fun l k e => by
    have hv := vals_strs l
    rw [e] at hv
    exact ⟨.ref s.heap.objs.size, _, I.lnew (t' := k) hv (by simp only [strsV, List.length_map]; omega), rfl, New.to q _ I.fresh⟩
  cases h1 : (decide (z.length < y.length) || decide (Builtin.Str.strKind z < Builtin.Str.strKind y))
  · cases hf : (Builtin.Str.occurrences z y 0 z.length (z.length + 1)).isEmpty
    · have e : Txt.split z y = Builtin.Str.partsBetween z (Builtin.Str.occurrences z y 0 z.length (z.length + 1)) y.length := (if_neg (ne_true_of_eq_false h1)).trans (if_neg (ne_true_of_eq_false hf))
      refine call_meets F.slot_str_split (typeIs_str _ _ _) F.entry_str_split (F.args_str_split_2 _ _) (meets_str_split_sep z y t t' h1 hy hf (by omega) (by rw [← e]; omega)) ?_
      show wants (EP X pins σ Q) X.xe _ { s with toks := _, heap := s.heap.push { cls := .type "list", data := .seq (strsFrom s.toks (Builtin.Str.partsBetween z (Builtin.Str.occurrences z y 0 z.length (z.length + 1)) y.length)).toArray } }
      rw [strsFrom_eq]
      exact fin (numbered s.toks _) _ ((numbered_texts _ _).trans e.symm)
    · exact call_meets F.slot_str_split (typeIs_str _ _ _) F.entry_str_split (F.args_str_split_2 _ _) (meets_str_split_not_found z y t t' h1 hy hf) (fin [(z, t)] s.toks ((if_neg (ne_true_of_eq_false h1)).trans (if_pos hf)).symm)
  · exact call_meets F.slot_str_split (typeIs_str _ _ _) F.entry_str_split (F.args_str_split_2 _ _) (meets_str_split_cannot_occur z y t t' h1) (fin [(z, t)] s.toks (if_pos h1).symm)
theorem i_split {H : Hp} {Q : VK} {z y : Str} (hy : (y.length == 0) = false) (hz : z.length + 2 ≤ sizeLine) (h : New H (.lst (strsV (Txt.split z y))) Q) : rSplit (.str z) [.str y] H Q := ⟨z, y, rfl, rfl, hy, hz, h⟩
def jl (c : Nat) : List (List Nat) → List Nat
  | [] => []
  | [x] => x
  | x :: y :: r => x ++ c :: jl c (y :: r)
theorem jl_inj {c : Nat} : ∀ {xs ys : List (List Nat)}, xs ≠ [] → ys ≠ [] → (∀ x ∈ xs, c ∉ x) → (∀ y ∈ ys, c ∉ y) → jl c xs = jl c ys → xs = ys
  | [], _, h, _, _, _, _ => absurd rfl h
  | _, [], _, h, _, _, _ => absurd rfl h
  | [x], [y], _, _, _, _, e => by simp only [jl] at e; rw [e]
  | [x], y :: z :: r, _, _, hx, _, e => by
    simp only [jl] at e
    exact absurd (show c ∈ x by rw [e]; simp) (hx x (by simp))
  | x :: z :: r, [y], _, _, _, hy, e => by
    simp only [jl] at e
    exact absurd (show c ∈ y by rw [← e]; simp) (hy y (by simp))
  | x :: z :: r, y :: w :: r', _, _, hx, hy, e => by
    simp only [jl] at e
    have cut : ∀ (a b : List Nat) (s t : List Nat), c ∉ a → c ∉ b → a ++ c :: s = b ++ c :: t → a = b ∧ s = t := by
      intro a
      induction a with
      | nil =>
        intro b s t _ hb e
        cases b with
        | nil => simpa using e
        | cons d b =>
          simp only [List.nil_append, List.cons_append, List.cons.injEq] at e
          exact absurd (show c ∈ d :: b by rw [e.1]; simp) hb
      | cons d a ih =>
        intro b s t ha hb e
        cases b with
        | nil =>
          simp only [List.nil_append, List.cons_append, List.cons.injEq] at e
          exact absurd (show c ∈ d :: a by rw [← e.1]; simp) ha
        | cons d' b =>
          simp only [List.cons_append, List.cons.injEq] at e
          obtain ⟨h1, h2⟩ := ih b s t (fun h => ha (List.mem_cons_of_mem _ h)) (fun h => hb (List.mem_cons_of_mem _ h)) e.2
          exact ⟨by rw [e.1, h1], h2⟩
    obtain ⟨h1, h2⟩ := cut _ _ _ _ (hx x (by simp)) (hy y (by simp)) e
    have := jl_inj (by simp) (by simp) (fun a h => hx a (List.mem_cons_of_mem _ h)) (fun a h => hy a (List.mem_cons_of_mem _ h)) h2
    rw [h1, this]
theorem join_jl (c : Nat) : ∀ ws : List Str, (Str.join ⟨#[c]⟩ ws).cps.toList = jl c (ws.map fun w => w.cps.toList)
  | [] => rfl
  | [x] => rfl
  | x :: y :: r => by
    show (x ++ (⟨#[c]⟩ : Str) ++ Str.join ⟨#[c]⟩ (y :: r)).cps.toList = _
    rw [sx_app, sx_app, join_jl c (y :: r)]
    simp [jl]
theorem split_join {c : Nat} {ws : List Str} (hne : ws ≠ []) (hf : ∀ w ∈ ws, c ∉ w.cps.toList) : Txt.split (Str.join ⟨#[c]⟩ ws) ⟨#[c]⟩ = ws := by
  have h1 := StrLaws.join_split (Str.join ⟨#[c]⟩ ws) ⟨#[c]⟩
  have h2 := congrArg (fun z : Str => z.cps.toList) h1
  simp only [join_jl] at h2
  have hp := split_pos (Str.join ⟨#[c]⟩ ws) ⟨#[c]⟩
  have h3 := jl_inj (xs := (Txt.split (Str.join ⟨#[c]⟩ ws) ⟨#[c]⟩).map fun w => w.cps.toList) (ys := ws.map fun w => w.cps.toList)
    (fun e => by have := congrArg List.length e; simp only [List.length_map, List.length_nil] at this; omega) (fun e => hne (by simpa using e))
    (fun x hx => by
      obtain ⟨w, hw, rfl⟩ := List.mem_map.mp hx
      exact StrLaws.split_free _ c w hw)
    (fun x hx => by
      obtain ⟨w, hw, rfl⟩ := List.mem_map.mp hx
      exact hf w hw) h2
  have inj : ∀ {a b : List Str}, (a.map fun w => w.cps.toList) = (b.map fun w => w.cps.toList) → a = b := by
    intro a
    induction a with
    | nil => intro b h; cases b with
      | nil => rfl
      | cons y b => simp at h
    | cons x a ih => intro b h; cases b with
      | nil => simp at h
      | cons y b =>
        simp only [List.map_cons, List.cons.injEq] at h
        rw [sx_ext h.1, ih h.2]
  exact inj h3
theorem join_app (s : Str) : ∀ {a b : List Str}, a ≠ [] → b ≠ [] → Str.join s (a ++ b) = Str.join s a ++ s ++ Str.join s b
  | [], _, h, _ => absurd rfl h
  | _, [], _, h => absurd rfl h
  | [x], y :: b, _, _ => rfl
  | x :: z :: a, y :: b, _, _ => by
    show x ++ s ++ Str.join s ((z :: a) ++ (y :: b)) = x ++ s ++ Str.join s (z :: a) ++ s ++ Str.join s (y :: b)
    rw [join_app s (by simp) (by simp), sx_assoc, sx_assoc, sx_assoc, sx_assoc, sx_assoc]
end L2
namespace L2
open PySem
abbrev bl1 : Str := ⟨#[32]⟩
theorem bl1_eq : Str.ofString " " = bl1 := by decide +kernel
def Tx (ws : List Str) : Str := Str.join bl1 ws
def sgnE (k : Bool) : Str := if k then "+" else "-"
def sgnC (k : Bool) : Str := if k then "=" else "<"
def Ex.words : Ex → List Str
  | .num i => [Str.ofString (toString i)]
  | .box n => [n]
  | .two k a b => Str.ofString "(" :: ((a.words ++ sgnE k :: b.words) ++ [Str.ofString ")"])
def Cd.words : Cd → List Str
  | .cmp k a b => a.words ++ sgnC k :: b.words
  | .nt c => Str.ofString "not" :: c.words
  | .both c d => Str.ofString "(" :: ((c.words ++ Str.ofString "and" :: d.words) ++ [Str.ofString ")"])
def Ex.names : Ex → List Str
  | .num _ => []
  | .box n => [n]
  | .two _ a b => a.names ++ b.names
def Cd.names : Cd → List Str
  | .cmp _ a b => a.names ++ b.names
  | .nt c => c.names
  | .both c d => c.names ++ d.names
theorem Ex.words_ne : ∀ e : Ex, e.words ≠ []
  | .num _ => by simp [Ex.words]
  | .box _ => by simp [Ex.words]
  | .two _ _ _ => by simp [Ex.words]
theorem Cd.words_ne : ∀ c : Cd, c.words ≠ []
  | .cmp _ a _ => by simp [Cd.words]
  | .nt _ => by simp [Cd.words]
  | .both _ _ => by simp [Cd.words]
theorem tx_mid {a b : List Str} (m : Str) (ha : a ≠ []) (hb : b ≠ []) : Tx (a ++ m :: b) = Tx a ++ (bl1 ++ m ++ bl1) ++ Tx b := by
  unfold Tx
  rw [show a ++ m :: b = a ++ ([m] ++ b) from rfl, join_app bl1 ha (by simp), join_app bl1 (a := [m]) (by simp) hb]
  show Str.join bl1 a ++ bl1 ++ (m ++ bl1 ++ Str.join bl1 b) = _
  simp only [sx_assoc]
theorem tx_cons (m : Str) {a : List Str} (ha : a ≠ []) : Tx (m :: a) = m ++ bl1 ++ Tx a := by
  unfold Tx
  rw [show m :: a = [m] ++ a from rfl, join_app bl1 (a := [m]) (by simp) ha]
  rfl
theorem tx_snoc (m : Str) {a : List Str} (ha : a ≠ []) : Tx (a ++ [m]) = Tx a ++ (bl1 ++ m) := by
  unfold Tx
  rw [join_app bl1 ha (by simp)]
  show Str.join bl1 a ++ bl1 ++ m = _
  rw [sx_assoc]
def isLow (y : Str) : Bool := !y.cps.toList.isEmpty && y.cps.toList.all fun c => decide (97 ≤ c) && decide (c ≤ 122)
structure Good (ys : List Str) : Prop where
  low : ∀ y ∈ ys, isLow y = true
  nt : (Str.ofString "not") ∉ ys
  an : (Str.ofString "and") ∉ ys
  ln : ∀ y ∈ ys, y.length ≤ 8
theorem Good.no {ys : List Str} (g : Good ys) {y : Str} (h : isLow y = false) : y ∉ ys := fun m => by
  have := g.low y m
  rw [h] at this
  cases this
theorem low_noblank {y : Str} (h : isLow y = true) : 32 ∉ y.cps.toList := fun m => by
  unfold isLow at h
  rw [Bool.and_eq_true, List.all_eq_true] at h
  have := h.2 32 m
  simp at this
theorem dig_facts {i : Int} (h0 : 0 ≤ i) (h1 : i < 10) : isLow (Str.ofString (toString i)) = false ∧ 32 ∉ (Str.ofString (toString i)).cps.toList := by
  rcases dig_cases h0 h1 with rfl | rfl | rfl | rfl | rfl | rfl | rfl | rfl | rfl | rfl <;> decide +kernel
theorem mark_facts : ∀ m ∈ ([Str.ofString "(", Str.ofString ")", Str.ofString "+", Str.ofString "-", Str.ofString "=", Str.ofString "<"] : List Str), isLow m = false ∧ 32 ∉ m.cps.toList ∧ m.length = 1 := by decide +kernel
theorem sgnE_in (k : Bool) : sgnE k ∈ ([Str.ofString "(", Str.ofString ")", Str.ofString "+", Str.ofString "-", Str.ofString "=", Str.ofString "<"] : List Str) := by cases k <;> decide +kernel
theorem sgnC_in (k : Bool) : sgnC k ∈ ([Str.ofString "(", Str.ofString ")", Str.ofString "+", Str.ofString "-", Str.ofString "=", Str.ofString "<"] : List Str) := by cases k <;> decide +kernel
theorem brL_in : Str.ofString "(" ∈ ([Str.ofString "(", Str.ofString ")", Str.ofString "+", Str.ofString "-", Str.ofString "=", Str.ofString "<"] : List Str) := by decide +kernel
theorem brR_in : Str.ofString ")" ∈ ([Str.ofString "(", Str.ofString ")", Str.ofString "+", Str.ofString "-", Str.ofString "=", Str.ofString "<"] : List Str) := by decide +kernel
def pick (ys ws : List Str) : List Str := ws.filter fun w => decide (w ∈ ys)
theorem pick_app (ys a b : List Str) : pick ys (a ++ b) = pick ys a ++ pick ys b := List.filter_append ..
theorem pick_no {ys : List Str} {w : Str} (r : List Str) (h : w ∉ ys) : pick ys (w :: r) = pick ys r := by unfold pick; rw [List.filter_cons, if_neg (by simpa using h)]
theorem pick_nil (ys : List Str) : pick ys [] = [] := rfl
theorem Ex.pick {ys : List Str} (g : Good ys) : ∀ e : Ex, e.ok ys → L2.pick ys e.words = e.names
  | .num i, h => by
    have hi := (dig_facts h.1 h.2).1
    simp only [Ex.words, Ex.names]
    rw [pick_no _ (g.no hi), pick_nil]
  | .box n, h => by
    have h' : n ∈ ys := h
    simp [Ex.words, Ex.names, L2.pick, h']
  | .two k a b, h => by
    simp only [Ex.words, Ex.names]
    rw [pick_no _ (g.no (mark_facts _ brL_in).1), pick_app, pick_app, pick_no _ (g.no (mark_facts _ (sgnE_in k)).1), pick_no _ (g.no (mark_facts _ brR_in).1), pick_nil, Ex.pick g a h.1, Ex.pick g b h.2, List.append_nil]
theorem Cd.pick {ys : List Str} {n : Nat} (g : Good ys) : ∀ c : Cd, c.ok ys n → L2.pick ys c.words = c.names
  | .cmp k a b, h => by
    simp only [Cd.words, Cd.names]
    rw [pick_app, pick_no _ (g.no (mark_facts _ (sgnC_in k)).1), Ex.pick g a h.1.1, Ex.pick g b h.2.1]
  | .nt c, h => by
    simp only [Cd.words, Cd.names]
    rw [pick_no _ g.nt, Cd.pick g c h]
  | .both c d, h => by
    simp only [Cd.words, Cd.names]
    rw [pick_no _ (g.no (mark_facts _ brL_in).1), pick_app, pick_app, pick_no _ g.an, pick_no _ (g.no (mark_facts _ brR_in).1), pick_nil, Cd.pick g c h.1, Cd.pick g d h.2, List.append_nil]
theorem Ex.noblank {ys : List Str} (g : Good ys) : ∀ e : Ex, e.ok ys → ∀ w ∈ e.words, 32 ∉ w.cps.toList
  | .num i, h, w, hw => by
    simp only [Ex.words, List.mem_singleton] at hw
    subst hw
    exact (dig_facts h.1 h.2).2
  | .box n, h, w, hw => by
    simp only [Ex.words, List.mem_singleton] at hw
    subst hw
    exact low_noblank (g.low _ h)
  | .two k a b, h, w, hw => by
    simp only [Ex.words, List.mem_cons, List.mem_append, List.mem_singleton, List.not_mem_nil, or_false] at hw
    rcases hw with rfl | (hw | rfl | hw) | rfl
    · exact (mark_facts _ brL_in).2.1
    · exact Ex.noblank g a h.1 w hw
    · exact (mark_facts _ (sgnE_in k)).2.1
    · exact Ex.noblank g b h.2 w hw
    · exact (mark_facts _ brR_in).2.1
theorem Cd.noblank {ys : List Str} {n : Nat} (g : Good ys) : ∀ c : Cd, c.ok ys n → ∀ w ∈ c.words, 32 ∉ w.cps.toList
  | .cmp k a b, h, w, hw => by
    simp only [Cd.words, List.mem_cons, List.mem_append] at hw
    rcases hw with hw | rfl | hw
    · exact Ex.noblank g a h.1.1 w hw
    · exact (mark_facts _ (sgnC_in k)).2.1
    · exact Ex.noblank g b h.2.1 w hw
  | .nt c, h, w, hw => by
    simp only [Cd.words, List.mem_cons] at hw
    rcases hw with rfl | hw
    · decide +kernel
    · exact Cd.noblank g c h w hw
  | .both c d, h, w, hw => by
    simp only [Cd.words, List.mem_cons, List.mem_append, List.mem_singleton, List.not_mem_nil, or_false] at hw
    rcases hw with rfl | (hw | rfl | hw) | rfl
    · exact (mark_facts _ brL_in).2.1
    · exact Cd.noblank g c h.1 w hw
    · decide +kernel
    · exact Cd.noblank g d h.2 w hw
    · exact (mark_facts _ brR_in).2.1
inductive Th where
  | ex (e : Ex)
  | cd (c : Cd)
def Cd.hh : Cd → Nat
  | .cmp _ a b => max a.h b.h + 1
  | .nt c => c.hh + 1
  | .both c d => max c.hh d.hh + 1
def Cd.sz : Cd → Nat
  | .cmp _ a b => a.sz + b.sz + 1
  | .nt c => c.sz + 1
  | .both c d => c.sz + d.sz + 1
def Th.hh : Th → Nat
  | .ex e => e.h
  | .cd c => c.hh
def Th.ok (ys : List Str) : Th → Prop
  | .ex e => e.ok ys
  | .cd c => c.ok ys 5
def Th.At (H : Hp) : Th → V → Prop
  | .ex e, v => e.At H v
  | .cd c, v => c.At H v
def Th.words : Th → List Str
  | .ex e => e.words
  | .cd c => c.words
def Th.names : Th → List Str
  | .ex e => e.names
  | .cd c => c.names
def Th.sz : Th → Nat
  | .ex e => e.sz
  | .cd c => c.sz
theorem Th.At.mono {H H' : Hp} (t : Tups H H') {x : Th} {v : V} (h : x.At H v) : x.At H' v := by
  cases x with
  | ex e => exact Ex.At.mono t h
  | cd c => exact Cd.At.mono t h
theorem tx_len1 (w : Str) : (Tx [w]).length = w.length := rfl
theorem bl1_len : bl1.length = 1 := rfl
theorem Ex.len {ys : List Str} (g : Good ys) : ∀ e : Ex, e.ok ys → (Tx e.words).length ≤ 12 * e.sz
  | .num i, h => by
    have := dig_len h.1 h.2
    simp only [Ex.words, tx_len1, Ex.sz]
    omega
  | .box n, h => by
    have := g.ln n h
    simp only [Ex.words, tx_len1, Ex.sz]
    omega
  | .two k a b, h => by
    have h1 := Ex.len g a h.1
    have h2 := Ex.len g b h.2
    have e1 := (mark_facts _ brL_in).2.2
    have e2 := (mark_facts _ brR_in).2.2
    have e3 := (mark_facts _ (sgnE_in k)).2.2
    simp only [Ex.words, Ex.sz]
    rw [tx_cons _ (by simp), tx_snoc _ (by simp), tx_mid _ a.words_ne b.words_ne]
    simp only [sx_len, bl1_len, e1, e2, e3]
    omega
theorem Cd.len {ys : List Str} {n : Nat} (g : Good ys) : ∀ c : Cd, c.ok ys n → (Tx c.words).length ≤ 12 * c.sz
  | .cmp k a b, h => by
    have h1 := Ex.len g a h.1.1
    have h2 := Ex.len g b h.2.1
    have e3 := (mark_facts _ (sgnC_in k)).2.2
    simp only [Cd.words, Cd.sz]
    rw [tx_mid _ a.words_ne b.words_ne]
    simp only [sx_len, bl1_len, e3]
    omega
  | .nt c, h => by
    have h1 := Cd.len g c h
    have e1 : (Str.ofString "not").length = 3 := by decide +kernel
    simp only [Cd.words, Cd.sz]
    rw [tx_cons _ c.words_ne]
    simp only [sx_len, bl1_len, e1]
    omega
  | .both c d, h => by
    have h1 := Cd.len g c h.1
    have h2 := Cd.len g d h.2
    have e1 := (mark_facts _ brL_in).2.2
    have e2 := (mark_facts _ brR_in).2.2
    have e3 : (Str.ofString "and").length = 3 := by decide +kernel
    simp only [Cd.words, Cd.sz]
    rw [tx_cons _ (by simp), tx_snoc _ (by simp), tx_mid _ c.words_ne d.words_ne]
    simp only [sx_len, bl1_len, e1, e2, e3]
    omega
theorem Th.len {ys : List Str} (g : Good ys) (x : Th) (h : x.ok ys) : (Tx x.words).length ≤ 12 * x.sz := by
  cases x with
  | ex e => exact Ex.len g e h
  | cd c => exact Cd.len g c h
theorem Cd.sz_le : ∀ c : Cd, c.sz < 2 ^ (c.hh + 1)
  | .cmp _ a b => by
    have h1 := a.sz_le
    have h2 := b.sz_le
    have h3 : 2 ^ (a.h + 1) ≤ 2 ^ (max a.h b.h + 1) := Nat.pow_le_pow_right (by decide) (by omega)
    have h4 : 2 ^ (b.h + 1) ≤ 2 ^ (max a.h b.h + 1) := Nat.pow_le_pow_right (by decide) (by omega)
    simp only [Cd.sz, Cd.hh]
    rw [Nat.pow_succ 2 (max a.h b.h + 1)]
    omega
  | .nt c => by
    have h1 := Cd.sz_le c
    simp only [Cd.sz, Cd.hh]
    rw [Nat.pow_succ 2 (c.hh + 1)]
    omega
  | .both a b => by
    have h1 := Cd.sz_le a
    have h2 := Cd.sz_le b
    have h3 : 2 ^ (a.hh + 1) ≤ 2 ^ (max a.hh b.hh + 1) := Nat.pow_le_pow_right (by decide) (by omega)
    have h4 : 2 ^ (b.hh + 1) ≤ 2 ^ (max a.hh b.hh + 1) := Nat.pow_le_pow_right (by decide) (by omega)
    simp only [Cd.sz, Cd.hh]
    rw [Nat.pow_succ 2 (max a.hh b.hh + 1)]
    omega
theorem Th.sz_le (x : Th) (h : x.hh ≤ 12) : x.sz ≤ 10000 := by
  have h2 : 2 ^ (x.hh + 1) ≤ 2 ^ 13 := Nat.pow_le_pow_right (by decide) (by omega)
  cases x with
  | ex e => have := e.sz_le; simp only [Th.sz, Th.hh] at *; omega
  | cd c => have := c.sz_le; simp only [Th.sz, Th.hh] at *; omega
theorem inV_strs (w : Str) (ys : List Str) : inV (.str w) (strsV ys) = decide (w ∈ ys) := by
  unfold inV strsV
  rw [List.any_map, Bool.eq_iff_iff, List.any_eq_true, decide_eq_true_iff]
  constructor
  · rintro ⟨y, hy, e⟩
    have : (y == w) = true := e
    have : y = w := by simpa using this
    exact this ▸ hy
  · intro h
    exact ⟨w, h, by show (w == w) = true; simp⟩
theorem strs_flat (ys : List Str) : (strsV ys).all flatV = true := by simp [strsV, flatV]
theorem i_inT {K : PySem.W.Frag} {H : Hp} {Q : VK} {p : Addr} {ys : List Str} {w : Str} (h1 : SqT K H p (strsV ys)) (h : Q (.bl (decide (w ∈ ys))) H) : rIn K false (.str w) (.ref p) H Q := ⟨p, strsV ys, rfl, .inr h1, rfl, strs_flat ys, by rw [inV_strs]; exact h⟩
theorem i_inL {K : PySem.W.Frag} {H : Hp} {Q : VK} {p : Addr} {ys : List Str} {w : Str} (h1 : SqL K H p (strsV ys)) (h : Q (.bl (decide (w ∈ ys))) H) : rIn K false (.str w) (.ref p) H Q := ⟨p, strsV ys, rfl, .inl h1, rfl, strs_flat ys, by rw [inV_strs]; exact h⟩
end L2
namespace L2
open PySem
abbrev markKv : List (Key × V) := [(Sum.inr (Str.ofString "plus"), .str (Str.ofString " + ")), (Sum.inr (Str.ofString "less"), .str (Str.ofString " - ")), (Sum.inr (Str.ofString "same"), .str (Str.ofString " = ")), (Sum.inr (Str.ofString "under"), .str (Str.ofString " < ")), (Sum.inr (Str.ofString "both"), .str (Str.ofString " and "))]
structure Two (H : Hp) (x : Th) (v : V) (m sg : Str) (x1 x2 : Th) (a : Addr) (v1 v2 : V) : Prop where
  v : v = .ref a
  at_ : H a = some (.tup [.str m, v1, v2])
  a1 : x1.At H v1
  a2 : x2.At H v2
  n1 : ¬ m = Str.ofString "number"
  n2 : ¬ m = Str.ofString "box"
  n3 : ¬ m = Str.ofString "not"
  names : x.names = x1.names ++ x2.names
  h1 : x1.hh < x.hh
  h2 : x2.hh < x.hh
  sz : x1.sz + x2.sz + 1 = x.sz
  ok : ∀ ys, x.ok ys → x1.ok ys ∧ x2.ok ys
  mv : valV (mergeK [] markKv) (Sum.inr m) = some (.str (bl1 ++ sg ++ bl1))
  sl : sg.length ≤ 3
  ws : (m ∈ [Str.ofString "same", Str.ofString "under"] ∧ x.words = x1.words ++ sg :: x2.words) ∨ (m ∉ [Str.ofString "same", Str.ofString "under"] ∧ x.words = Str.ofString "(" :: ((x1.words ++ sg :: x2.words) ++ [Str.ofString ")"]))
theorem Th.view {H : Hp} {x : Th} {v : V} (h : x.At H v) : (∃ i a, x = .ex (.num i) ∧ v = .ref a ∧ H a = some (.tup [.str "number", .int i])) ∨ (∃ n a, x = .ex (.box n) ∧ v = .ref a ∧ H a = some (.tup [.str "box", .str n])) ∨
    (∃ c a v1, x = .cd (.nt c) ∧ v = .ref a ∧ H a = some (.tup [.str "not", v1]) ∧ (Th.cd c).At H v1) ∨ ∃ m sg x1 x2 a v1 v2, Two H x v m sg x1 x2 a v1 v2 := by
  cases x with
  | ex e => cases e with
    | num i =>
      obtain ⟨a, h1, h2⟩ := h
      exact .inl ⟨i, a, rfl, h1, h2⟩
    | box n =>
      obtain ⟨a, h1, h2⟩ := h
      exact .inr (.inl ⟨n, a, rfl, h1, h2⟩)
    | two k e f =>
      obtain ⟨a, v1, v2, h1, h2, h3, h4⟩ := h
      refine .inr (.inr (.inr ⟨markS k, sgnE k, .ex e, .ex f, a, v1, v2, h1, h2, h3, h4, by cases k <;> decide +kernel, by cases k <;> decide +kernel, by cases k <;> decide +kernel, rfl, ?_, ?_, rfl, fun ys h => h, by cases k <;> decide +kernel, by cases k <;> decide +kernel, .inr ⟨by cases k <;> decide +kernel, rfl⟩⟩))
      · simp only [Th.hh, Ex.h]; omega
      · simp only [Th.hh, Ex.h]; omega
  | cd c => cases c with
    | nt c =>
      obtain ⟨a, v1, h1, h2, h3⟩ := h
      exact .inr (.inr (.inl ⟨c, a, v1, rfl, h1, h2, h3⟩))
    | cmp k e f =>
      obtain ⟨a, v1, v2, h1, h2, h3, h4⟩ := h
      refine .inr (.inr (.inr ⟨markC k, sgnC k, .ex e, .ex f, a, v1, v2, h1, h2, h3, h4, by cases k <;> decide +kernel, by cases k <;> decide +kernel, by cases k <;> decide +kernel, rfl, ?_, ?_, rfl, fun ys h => ⟨h.1.1, h.2.1⟩, by cases k <;> decide +kernel, by cases k <;> decide +kernel, .inl ⟨by cases k <;> decide +kernel, rfl⟩⟩))
      · simp only [Th.hh, Cd.hh]; omega
      · simp only [Th.hh, Cd.hh]; omega
    | both c d =>
      obtain ⟨a, v1, v2, h1, h2, h3, h4⟩ := h
      refine .inr (.inr (.inr ⟨Str.ofString "both", Str.ofString "and", .cd c, .cd d, a, v1, v2, h1, h2, h3, h4, by decide +kernel, by decide +kernel, by decide +kernel, rfl, ?_, ?_, rfl, fun ys h => h, by decide +kernel, by decide +kernel, .inr ⟨by decide +kernel, rfl⟩⟩))
      · simp only [Th.hh, Cd.hh]; omega
      · simp only [Th.hh, Cd.hh]; omega
theorem Ex.names_le : ∀ e : Ex, e.names.length ≤ e.sz
  | .num _ => by simp [Ex.names]
  | .box _ => by simp [Ex.names, Ex.sz]
  | .two _ a b => by
    have h1 := Ex.names_le a
    have h2 := Ex.names_le b
    simp only [Ex.names, Ex.sz, List.length_append]
    omega
theorem Cd.names_le : ∀ c : Cd, c.names.length ≤ c.sz
  | .cmp _ a b => by
    have h1 := a.names_le
    have h2 := b.names_le
    simp only [Cd.names, Cd.sz, List.length_append]
    omega
  | .nt c => by
    have h1 := Cd.names_le c
    simp only [Cd.names, Cd.sz]
    omega
  | .both a b => by
    have h1 := Cd.names_le a
    have h2 := Cd.names_le b
    simp only [Cd.names, Cd.sz, List.length_append]
    omega
theorem Th.names_le (x : Th) : x.names.length ≤ x.sz := by
  cases x with
  | ex e => exact e.names_le
  | cd c => exact c.names_le
theorem Th.pick {ys : List Str} (g : Good ys) (x : Th) (h : x.ok ys) : L2.pick ys x.words = x.names := by
  cases x with
  | ex e => exact Ex.pick g e h
  | cd c => exact Cd.pick g c h
theorem Th.noblank {ys : List Str} (g : Good ys) (x : Th) (h : x.ok ys) : ∀ w ∈ x.words, 32 ∉ w.cps.toList := by
  cases x with
  | ex e => exact Ex.noblank g e h
  | cd c => exact Cd.noblank g c h
theorem Th.words_ne (x : Th) : x.words ≠ [] := by
  cases x with
  | ex e => exact e.words_ne
  | cd c => exact c.words_ne
theorem Th.split {ys : List Str} (g : Good ys) (x : Th) (h : x.ok ys) : Txt.split (Tx x.words) bl1 = x.words := split_join x.words_ne (x.noblank g h)
theorem strsV_app (a b : List Str) : strsV a ++ strsV b = strsV (a ++ b) := by simp [strsV]
theorem i_dget {σ : St} {H : Hp} {Q : VK} {td ty : TE} (h : td σ H fun x H1 => ty σ H1 fun y H2 => ∃ a v, x = .ref a ∧ DGet H2 a y (some v) ∧ Q v H2) : tDGet td ty σ H Q := h
end L2
namespace L2
open PySem PySem.Spec PyProof.Rows
theorem kop_neS {X : Cx} (K : PySem.W.Frag) (hu : X.A.units < cLine) (hK : X.K = K := by rfl) : OpR X (compareOp .NotEq) (rEqS K true) := by
  subst hK
  intro pins s σ H x y v u Q I rx ry h
  obtain ⟨l, b, ys, zs, rfl, rfl, h1, h2, q⟩ := h
  cases rx
  cases ry
  obtain ⟨is1, r1, p1, _⟩ := I.list h1
  obtain ⟨is2, r2, p2, _⟩ := I.list h2
  have e1 : ys.length = is1.length := by have := r1.length; simpa [strsV] using this
  have e2 : zs.length = is2.length := by have := r2.length; simpa [strsV] using this
  by_cases hl : ys.length = zs.length
  · have := SeqAt.RcNeAt.lists (A := X.A) (s := s) (e := fun i => decide (ys[i]? = zs[i]?)) p1.isList p2.isList (by simp; omega) hu (fun j h1 h2 => by
      obtain ⟨y, t, ey, eu⟩ := strs_at r1 j (by simpa using h1)
      obtain ⟨z, t', ez, ew⟩ := strs_at r2 j (by simpa using h2)
      have : decide (ys[j]? = zs[j]?) = (y == z) := by rw [ey, ez, Bool.eq_iff_iff]; simp
      rw [this]
      have g1 : is1.toArray[j] = .str y t := by simpa using eu
      have g2 : is2.toArray[j] = .str z t' := by simpa using ew
      rw [g1, g2]
      exact SeqAt.EqAt.str_str y t z t')
    rw [show is1.toArray.size = ys.length by simp [e1], range_eqS ys zs hl] at this
    exact this _ _ _ _ ⟨.bl _, H, I, rfl, q⟩
  · have hne : ys ≠ zs := fun e => hl (by rw [e])
    rw [decide_eq_false hne] at q
    exact SeqAt.RcNeAt.lists_lengths p1.isList p2.isList (by simp; omega) hu _ _ _ _ ⟨.bl _, H, I, rfl, q⟩
theorem i_neL {K : PySem.W.Frag} {H : Hp} {Q : VK} {l b : Addr} {ys zs : List Str} (h1 : SqL K H l (strsV ys)) (h2 : SqL K H b (strsV zs)) (h : Q (.bl (!decide (ys = zs))) H) : rEqS K true (.ref l) (.ref b) H Q := ⟨l, b, ys, zs, rfl, rfl, h1, h2, h⟩
def fixN (y : Str) : Str := if y ∈ [Str.ofString "not", Str.ofString "and"] then Str.ofString "nota" else y
theorem good_of {ys : List Str} (h : ∀ y ∈ ys, isLow y = true ∧ y.length ≤ 8) : Good (ys.map fixN) := by
  have hn : isLow (Str.ofString "nota") = true ∧ (Str.ofString "nota").length ≤ 8 ∧ Str.ofString "nota" ≠ Str.ofString "not" ∧ Str.ofString "nota" ≠ Str.ofString "and" := by decide +kernel
  refine ⟨fun y hy => ?_, fun hy => ?_, fun hy => ?_, fun y hy => ?_⟩
  · obtain ⟨z, hz, rfl⟩ := List.mem_map.mp hy
    unfold fixN
    split
    · exact hn.1
    · exact (h z hz).1
  · obtain ⟨z, hz, e⟩ := List.mem_map.mp hy
    unfold fixN at e
    split at e
    · exact hn.2.2.1 e
    · rename_i hz'
      exact hz' (by rw [e]; simp)
  · obtain ⟨z, hz, e⟩ := List.mem_map.mp hy
    unfold fixN at e
    split at e
    · exact hn.2.2.2 e
    · rename_i hz'
      exact hz' (by rw [e]; simp)
  · obtain ⟨z, hz, rfl⟩ := List.mem_map.mp hy
    unfold fixN
    split
    · exact hn.2.1
    · exact (h z hz).2
theorem pick_snoc {ys ws : List Str} {i : Nat} {w : Str} (e : ws[i]? = some w) : pick ys (ws.take (i + 1)) = pick ys (ws.take i) ++ (if w ∈ ys then [w] else []) := by
  unfold pick
  rw [List.take_add_one, e, List.filter_append]
  by_cases h : w ∈ ys <;> simp [h]
end L2
namespace L2
open PySem
inductive Tr where
  | non
  | int (i : Int)
  | str (s : Str)
  | tup (xs : List Tr)
  | lst (xs : List Tr)
mutual
def Tr.At (H : Hp) : Tr → V → List Addr → Prop
  | .non, v, fs => v = .non ∧ fs = []
  | .int i, v, fs => v = .int i ∧ fs = []
  | .str s, v, fs => v = .str s ∧ fs = []
  | .tup xs, v, fs => ∃ a vs, v = .ref a ∧ H a = some (.tup vs) ∧ Tr.Ats H xs vs fs
  | .lst xs, v, fs => ∃ a vs gs, v = .ref a ∧ H a = some (.lst vs) ∧ Tr.Ats H xs vs gs ∧ fs = a :: gs
def Tr.Ats (H : Hp) : List Tr → List V → List Addr → Prop
  | [], vs, fs => vs = [] ∧ fs = []
  | x :: xs, vs, fs => ∃ v ws f g, vs = v :: ws ∧ fs = f ++ g ∧ Tr.At H x v f ∧ Tr.Ats H xs ws g
end
def Keep (fs : List Addr) (H H' : Hp) : Prop := Tups H H' ∧ ∀ a ∈ fs, ∀ xs, H a = some (.lst xs) → H' a = some (.lst xs)
theorem Same.keep {H H' : Hp} (s : Same H H') (fs : List Addr) : Keep fs H H' := ⟨s.tups, fun a _ xs h => s a _ h⟩
theorem Keep.upd {fs : List Addr} {H : Hp} {l : Addr} {xs : List V} {o : HO} (h : H l = some (.lst xs)) (n : l ∉ fs) : Keep fs H (upd H l o) := ⟨Tups.upd h, fun a m ys e => by
  have hne : a ≠ l := fun z => n (z ▸ m)
  rw [upd_ne hne]
  exact e⟩
theorem Keep.trans {fs : List Addr} {H H1 H2 : Hp} (a : Keep fs H H1) (b : Keep fs H1 H2) : Keep fs H H2 := ⟨a.1.trans b.1, fun c m xs h => b.2 c m xs (a.2 c m xs h)⟩
theorem Keep.sub {fs gs : List Addr} {H H' : Hp} (k : Keep fs H H') (h : ∀ a ∈ gs, a ∈ fs) : Keep gs H H' := ⟨k.1, fun a m => k.2 a (h a m)⟩
mutual
theorem Tr.At.mono {H H' : Hp} : ∀ {x : Tr} {v : V} {fs : List Addr}, x.At H v fs → Keep fs H H' → x.At H' v fs
  | .non, _, _, h, _ => by simpa only [Tr.At] using h
  | .int _, _, _, h, _ => by simpa only [Tr.At] using h
  | .str _, _, _, h, _ => by simpa only [Tr.At] using h
  | .tup xs, v, fs, h, k => by
    simp only [Tr.At] at h ⊢
    obtain ⟨a, vs, e, g, r⟩ := h
    exact ⟨a, vs, e, k.1 _ _ g, Tr.Ats.mono r k⟩
  | .lst xs, v, fs, h, k => by
    simp only [Tr.At] at h ⊢
    obtain ⟨a, vs, gs, e, g, r, rfl⟩ := h
    exact ⟨a, vs, gs, e, k.2 _ (by simp) _ g, Tr.Ats.mono r (k.sub fun b m => by simp [m]), rfl⟩
theorem Tr.Ats.mono {H H' : Hp} : ∀ {xs : List Tr} {vs : List V} {fs : List Addr}, Tr.Ats H xs vs fs → Keep fs H H' → Tr.Ats H' xs vs fs
  | [], _, _, h, _ => by simpa only [Tr.Ats] using h
  | x :: xs, vs, fs, h, k => by
    simp only [Tr.Ats] at h ⊢
    obtain ⟨v, ws, f, g, e, rfl, a, b⟩ := h
    exact ⟨v, ws, f, g, e, rfl, Tr.At.mono a (k.sub fun c m => by simp [m]), Tr.Ats.mono b (k.sub fun c m => by simp [m])⟩
end
theorem Tr.Ats.snoc {H : Hp} : ∀ {xs : List Tr} {vs : List V} {fs gs : List Addr} {x : Tr} {v : V}, Tr.Ats H xs vs fs → x.At H v gs → Tr.Ats H (xs ++ [x]) (vs ++ [v]) (fs ++ gs)
  | [], vs, fs, gs, x, v, h, a => by
    simp only [Tr.Ats] at h
    obtain ⟨rfl, rfl⟩ := h
    simp only [List.nil_append, Tr.Ats]
    exact ⟨v, [], gs, [], rfl, by simp, a, rfl, rfl⟩
  | y :: xs, vs, fs, gs, x, v, h, a => by
    simp only [Tr.Ats] at h
    obtain ⟨w, ws, f, g, rfl, rfl, b, c⟩ := h
    simp only [List.cons_append, Tr.Ats]
    exact ⟨w, ws ++ [v], f, g ++ gs, rfl, by simp, b, c.snoc a⟩
theorem Tr.Ats.len {H : Hp} : ∀ {xs : List Tr} {vs : List V} {fs : List Addr}, Tr.Ats H xs vs fs → vs.length = xs.length
  | [], vs, fs, h => by
    simp only [Tr.Ats] at h
    obtain ⟨rfl, rfl⟩ := h
    rfl
  | y :: xs, vs, fs, h => by
    simp only [Tr.Ats] at h
    obtain ⟨w, ws, f, g, rfl, rfl, b, c⟩ := h
    simp [c.len]
theorem Tr.Ats.get {H : Hp} : ∀ {xs : List Tr} {vs : List V} {fs : List Addr}, Tr.Ats H xs vs fs → ∀ (i : Nat) (v : V), vs[i]? = some v → ∃ x f, xs[i]? = some x ∧ x.At H v f ∧ ∀ a ∈ f, a ∈ fs
  | [], vs, fs, h, i, v, e => by
    simp only [Tr.Ats] at h
    obtain ⟨rfl, rfl⟩ := h
    simp at e
  | y :: xs, vs, fs, h, i, v, e => by
    simp only [Tr.Ats] at h
    obtain ⟨w, ws, f, g, rfl, rfl, b, c⟩ := h
    cases i with
    | zero =>
      simp at e
      subst e
      exact ⟨y, f, rfl, b, fun a m => by simp [m]⟩
    | succ i =>
      obtain ⟨x, f', h1, h2, h3⟩ := c.get i v (by simpa using e)
      exact ⟨x, f', by simpa using h1, h2, fun a m => by simp [h3 a m]⟩
end L2
namespace L2
open PySem PySem.Spec PyProof.Rows
mutual
def Tr.h : Tr → Nat
  | .non => 0
  | .int _ => 0
  | .str _ => 0
  | .tup xs => Tr.hs xs + 1
  | .lst xs => Tr.hs xs + 1
def Tr.hs : List Tr → Nat
  | [] => 0
  | x :: xs => max x.h (Tr.hs xs)
end
theorem all_tt (n : Nat) : ((List.range n).all fun _ => true) = true := by simp
theorem in1_units (A : Around) : A.in1.units = A.units + 1 := rfl
section
variable {X : Cx} {pins : List (Addr × Obj)} {σ : St} {H : Hp} {s : Shared}
mutual
theorem Tr.eqAt (I : Inv X pins σ H s) : ∀ {t : Tr} {A : Around} {v w : V} {fs gs : List Addr} {u z : Value}, t.At H v fs → t.At H w gs → RelV v u → RelV w z → A.units + t.h < cLine → SeqAt.EqAt A s u z true
  | .non, A, v, w, fs, gs, u, z, h1, h2, r1, r2, hu => by
    simp only [Tr.At] at h1 h2
    obtain ⟨rfl, -⟩ := h1
    obtain ⟨rfl, -⟩ := h2
    cases r1
    cases r2
    exact SeqAt.EqAt.same _
  | .int i, A, v, w, fs, gs, u, z, h1, h2, r1, r2, hu => by
    simp only [Tr.At] at h1 h2
    obtain ⟨rfl, -⟩ := h1
    obtain ⟨rfl, -⟩ := h2
    obtain ⟨t1, rfl⟩ := r1
    obtain ⟨t2, rfl⟩ := r2
    have := SeqAt.EqAt.int_int (A := A) (s := s) i t1 i t2
    simpa using this
  | .str i, A, v, w, fs, gs, u, z, h1, h2, r1, r2, hu => by
    simp only [Tr.At] at h1 h2
    obtain ⟨rfl, -⟩ := h1
    obtain ⟨rfl, -⟩ := h2
    obtain ⟨t1, rfl⟩ := r1
    obtain ⟨t2, rfl⟩ := r2
    have := SeqAt.EqAt.str_str (A := A) (s := s) i t1 i t2
    simpa using this
  | .tup xs, A, v, w, fs, gs, u, z, h1, h2, r1, r2, hu => by
    simp only [Tr.At] at h1 h2
    obtain ⟨a, vs, rfl, e1, c1⟩ := h1
    obtain ⟨b, ws, rfl, e2, c2⟩ := h2
    cases r1
    cases r2
    by_cases hab : a = b
    · subst hab
      exact SeqAt.EqAt.same _
    refine SeqAt.EqAt.of_refs hab ?_
    obtain ⟨is1, q1, p1, _⟩ := I.tuple (SqT.of e1)
    obtain ⟨is2, q2, p2, _⟩ := I.tuple (SqT.of e2)
    simp only [Tr.h] at hu
    have hl : is1.length = is2.length := by rw [← q1.length, ← q2.length, c1.len, c2.len]
    have := SeqAt.RcAt.tuples (A := A) (s := s) (e := fun _ => true) p1 p2 (by omega) (fun j h1 h2 => by
      have := Tr.eqAts I (A := A.in1) c1 c2 q1 q2 (by rw [in1_units]; omega) j (by simpa using h1) (by simpa using h2)
      simpa using this)
    simpa [hl, all_tt] using this
  | .lst xs, A, v, w, fs, gs, u, z, h1, h2, r1, r2, hu => by
    simp only [Tr.At] at h1 h2
    obtain ⟨a, vs, _, rfl, e1, c1, _⟩ := h1
    obtain ⟨b, ws, _, rfl, e2, c2, _⟩ := h2
    cases r1
    cases r2
    by_cases hab : a = b
    · subst hab
      exact SeqAt.EqAt.same _
    refine SeqAt.EqAt.of_refs hab ?_
    obtain ⟨is1, q1, p1, _⟩ := I.list (SqL.of e1)
    obtain ⟨is2, q2, p2, _⟩ := I.list (SqL.of e2)
    simp only [Tr.h] at hu
    have hl : is1.length = is2.length := by rw [← q1.length, ← q2.length, c1.len, c2.len]
    have := SeqAt.RcAt.lists (A := A) (s := s) (e := fun _ => true) p1.isList p2.isList (by simpa using hl) (by omega) (fun j h1 h2 => by
      have := Tr.eqAts I (A := A.in1) c1 c2 q1 q2 (by rw [in1_units]; omega) j (by simpa using h1) (by simpa using h2)
      simpa using this)
    simpa [all_tt] using this
theorem Tr.eqAts (I : Inv X pins σ H s) : ∀ {ts : List Tr} {A : Around} {vs ws : List V} {fs gs : List Addr} {us zs : List Value}, Tr.Ats H ts vs fs → Tr.Ats H ts ws gs → Vals vs us → Vals ws zs → A.units + Tr.hs ts < cLine →
    ∀ (j : Nat) (h1 : j < us.length) (h2 : j < zs.length), SeqAt.EqAt A s us[j] zs[j] true
  | [], A, vs, ws, fs, gs, us, zs, c1, c2, q1, q2, hu, j, h1, h2 => by
    simp only [Tr.Ats] at c1
    obtain ⟨rfl, -⟩ := c1
    cases q1
    exact absurd h1 (by simp)
  | t :: ts, A, vs, ws, fs, gs, us, zs, c1, c2, q1, q2, hu, j, h1, h2 => by
    simp only [Tr.Ats] at c1 c2
    obtain ⟨v, vs, f, g, rfl, rfl, a1, b1⟩ := c1
    obtain ⟨w, ws, f', g', rfl, rfl, a2, b2⟩ := c2
    cases q1 with
    | cons r1 q1 =>
    cases q2 with
    | cons r2 q2 =>
    simp only [Tr.hs] at hu
    cases j with
    | zero => exact Tr.eqAt I a1 a2 r1 r2 (by omega)
    | succ j => exact Tr.eqAts I b1 b2 q1 q2 (by omega) j (by simpa using h1) (by simpa using h2)
end
def rEqT : R2 := fun x y H Q => ∃ t fs gs, (Tr.tup t).At H x fs ∧ (Tr.tup t).At H y gs ∧ Tr.hs t ≤ 60 ∧ Q (.bl true) H
theorem kop_eqT (hu : X.A.units + 64 < cLine) : OpR X (compareOp .Eq) rEqT := by
  intro pins s σ H x y v u Q I rx ry h
  obtain ⟨t, fs, gs, h1, h2, hh, q⟩ := h
  simp only [Tr.At] at h1 h2
  obtain ⟨a, vs, rfl, e1, c1⟩ := h1
  obtain ⟨b, ws, rfl, e2, c2⟩ := h2
  cases rx
  cases ry
  obtain ⟨is1, q1, p1, _⟩ := I.tuple (SqT.of e1)
  obtain ⟨is2, q2, p2, _⟩ := I.tuple (SqT.of e2)
  have hl : is1.length = is2.length := by rw [← q1.length, ← q2.length, c1.len, c2.len]
  have := SeqAt.RcAt.tuples (A := X.A) (s := s) (e := fun _ => true) p1 p2 (by omega) (fun j h1 h2 => by
    have := Tr.eqAts I (A := X.A.in1) c1 c2 q1 q2 (by rw [in1_units]; omega) j (by simpa using h1) (by simpa using h2)
    simpa using this)
  refine this X.prog X.w X.xe (EP X pins σ Q) ⟨.bl true, H, I, ?_, q⟩
  rw [show ((List.range (min is1.toArray.size is2.toArray.size)).all (fun _ => true) && is1.toArray.size == is2.toArray.size) = true by simp [hl]]
  rfl
theorem i_eqT {H : Hp} {Q : VK} {x y : V} {t : List Tr} {fs gs : List Addr} (h1 : (Tr.tup t).At H x fs) (h2 : (Tr.tup t).At H y gs) (hh : Tr.hs t ≤ 60) (h : Q (.bl true) H) : rEqT x y H Q := ⟨t, fs, gs, h1, h2, hh, h⟩
end
end L2
namespace L2
open PySem PySem.Spec PyProof.Rows
theorem isList_but {it l : Addr} {items : Array Value} {h h' : Heap} (hl : h.IsList l items) (e : Heap.ExtBut it h h') (hne : l ≠ it) : h'.IsList l items := by
  obtain ⟨o, ho, r⟩ := hl
  exact ⟨o, e l o hne ho, r⟩
section
variable {prog : Program} {w : World} {A : Around} {E : Value → Shared → Prop}
theorem draw_list {it l : Addr} {items : Array Value} (hne : l ≠ it) : ∀ (n i : Nat) (s : Shared) (Q : List Value → Shared → Prop), s.heap.IsListIter it l i → s.heap.IsList l items → i + n ≤ items.size →
    (∀ h', h'.IsListIter it l (i + n) → Heap.SameBut it s.heap h' → Q ((items.toList.drop i).take n) { s with heap := h' }) → wpAny (model prog w) A (draw (.ref it) n) Q E s
  | 0, i, s, Q, hit, _, _, hQ => by
    show wpAny _ _ (pure []) Q E s
    exact wpAny_pure (by simpa using hQ s.heap hit (Heap.SameBut.refl ..))
  | n + 1, i, s, Q, hit, ht, hle, hQ => by
    have hlt : i < items.size := by omega
    show wpAny _ _ (pyNext (.ref it) >>= _) Q E s
    refine wpAny_bind (wpAny_pyNext_list_item hit ht (x := items[i]) (by simp [hlt]) fun h1 hit1 hs1 => ?_)
    refine wpAny_bind (wpAny_holding (draw_list hne n (i + 1) _ _ hit1 (isList_but ht hs1.extBut hne) (by omega) fun h2 hit2 hs2 => wpAny_pure ?_))
    have hd : items.toList.drop i = items[i] :: items.toList.drop (i + 1) := by simp [List.drop_eq_getElem_cons, hlt]
    have := hQ h2 (by rw [show i + (n + 1) = i + 1 + n by omega]; exact hit2) (hs1.trans hs2)
    rw [hd, List.take_succ_cons] at this
    exact this
theorem unpackItems_list {s : Shared} {l : Addr} {items : Array Value} {Q : List Value → Shared → Prop} (hh : A.handled = none) (ht : s.heap.IsList l items)
    (hQ : ∀ h', Heap.ExtBut s.heap.objs.size s.heap h' → Q items.toList { s with heap := h' }) : wpAny (model prog w) A (unpackItems (.ref l) items.size none) Q E s := by
  have hlt : l ≠ s.heap.objs.size := by obtain ⟨o, ho, _⟩ := ht; exact Nat.ne_of_lt (Heap.lt_size ho)
  unfold unpackItems
  refine wpAny_bind ?_
  unfold notIterableAtAll
  refine wpAny_bind (wpAny_specialOf ht.typeIs slot_list_iter.lookup ?_)
  refine wpAny_pure ?_
  simp only [Bool.false_eq_true, if_false]
  refine wpAny_bind (wpAny_holding (wpAny_pyIter_list ht ?_))
  have hp : (s.heap.push { cls := .type "list_iterator", data := .fields #[.ref l, .int 0 0] }).IsList l items := by
    obtain ⟨o, ho, r⟩ := ht
    exact ⟨o, Heap.get?_push_of_some _ ho, r⟩
  refine wpAny_bind (wpAny_holding (draw_list hlt items.size 0 _ _ ⟨_, Heap.get?_push_size _ rfl, rfl, rfl⟩ hp (by omega) fun h1 hit1 hs1 => ?_))
  have hall : List.take items.size (List.drop 0 items.toList) = items.toList := by
    rw [List.drop_zero]; exact List.take_of_length_le (by simp)
  rw [hall, if_neg (by simp)]
  refine wpAny_bind (wpAny_holding (wpAny_pyNext_list_end hh hit1 (isList_but hp hs1.extBut hlt) (by simp) fun h2 he2 => ?_))
  simp only [Option.isSome_none, Bool.false_eq_true, if_false]
  exact wpAny_pure (hQ h2 fun b o hb e => he2 b o hb (hs1.extBut b o hb (Heap.get?_push_of_some _ e)))
end
section
variable {X : Cx} {pos : Pos}
def gLst (K : PySem.W.Frag) (n : Nat) (t : TGs) : TG := fun v σ H Q => ∃ a xs, v = .ref a ∧ SqL K H a xs ∧ xs.length = n ∧ t xs σ H Q
theorem kpg_lst (K : PySem.W.Frag) {es : List Expr} {k : Nat} {t : TGs} {n : Nat} (hc : X.calm = true) (h : PGs X es t) (hn : (assignEach es X.env).length = n := by rfl) (hst : (assignEach es X.env).findIdx? (·.1) = none := by rfl) (hK : X.K = K := by rfl) :
    PG X (.Tuple es k pos) (gLst K n t) := by
  subst hK
  intro pins s σ H v u Q I r hw
  obtain ⟨a, xs, e1, hq, hl, hw⟩ := hw
  subst e1
  cases r
  obtain ⟨its, rv, ht, hz⟩ := I.list hq
  rw [PySem.arm_assign_Tuple]
  refine wpAny_bind (wpAny_standAt ?_)
  unfold unpack
  rw [hst, show (assignEach es X.env).length = its.toArray.size by simp [hn, ← hl, rv.length]]
  refine wpAny_bind (wpAny_holding (unpackItems_list (I.ok.hd hc) ht.isList fun h' hx => ?_))
  have I1 : Inv X pins σ H { s with heap := h' } := I.kept (t' := s.toks) fun b o e => hx b o (Nat.ne_of_lt (Heap.lt_size e)) e
  exact h pins _ σ H xs _ Q I1 (by simpa using rv) hw
theorem i_asgL {K : PySem.W.Frag} {σ : St} {H : Hp} {QS : St → Hp → Prop} {n : Nat} {ts : TGs} {a : Addr} {xs : List V} (h1 : SqL K H a xs) (h2 : xs.length = n) (h : ts xs σ H QS) : gLst K n ts (.ref a) σ H QS := ⟨a, xs, rfl, h1, h2, h⟩
end
end L2
namespace L2
open PySem PySem.Spec PyProof.Rows
structure DicK (K : PySem.W.Frag) (P : Params) (a : Addr) (f : List (Str × Str)) : Prop where
  lk : ∃ es n, K.lookup a = some ⟨.type "dict", none, .dict es n, #[]⟩ ∧ PySem.W.KeysLit P es.toList
  at_ : ∀ k z, (k, z) ∈ f → ∃ t, PySem.W.nsIn K a k = some (some (.str z t))
def rIxD (K : PySem.W.Frag) (P : Params) : R2 := fun x y H Q => ∃ a f k z, x = .ref a ∧ y = .str k ∧ DicK K P a f ∧ (k, z) ∈ f ∧ Q (.str z) H
theorem kix_dic {X : Cx} (K : PySem.W.Frag) (P : Params) (hK : X.K = K := by rfl) (hP : X.w.params = P := by rfl) : IxR X (rIxD K P) := by
  subst hK hP
  intro value slice pins s σ H x y v u Q I rx ry h hs
  obtain ⟨a, f, k, z, rfl, rfl, d, m, q⟩ := h
  cases rx
  obtain ⟨t, rfl⟩ := ry
  obtain ⟨es, n, hl, hk⟩ := d.lk
  obtain ⟨t', e⟩ := d.at_ k z m
  have hm := PySem.W.mapOf_K (prog := X.prog) (w := X.w) I.kIn hl hk
  exact tail_any hm.typeIs slot_dict_getitem.lookup (wpAny_getItem_of (strKind_is X.prog X.w k t) hm (PySem.W.find_K hl e) ⟨.str z, H, I.tok _, ⟨_, rfl⟩, q⟩) hs
theorem i_ixD {K : PySem.W.Frag} {P : Params} {H : Hp} {Q : VK} {a : Addr} {f : List (Str × Str)} {k z : Str} (d : DicK K P a f) (m : (k, z) ∈ f) (h : Q (.str z) H) : rIxD K P (.ref a) (.str k) H Q := ⟨a, f, k, z, rfl, rfl, d, m, h⟩
inductive DicAt (K : PySem.W.Frag) (a : Addr) : List (Str × Str) → Prop
  | nil : DicAt K a []
  | cons {k z : Str} {v : Value} {r : List (Str × Str)} : PySem.W.nsIn K a k = some (some v) → RelV (.str z) v → DicAt K a r → DicAt K a ((k, z) :: r)
theorem DicAt.all {K : PySem.W.Frag} {a : Addr} {f : List (Str × Str)} (d : DicAt K a f) : ∀ k z, (k, z) ∈ f → ∃ t, PySem.W.nsIn K a k = some (some (.str z t)) := by
  induction d with
  | nil => intro k z m; exact nomatch m
  | cons e r _ ih =>
    intro k z m
    rcases List.mem_cons.mp m with h | h
    · cases h
      obtain ⟨t, rfl⟩ := r
      exact ⟨t, e⟩
    · exact ih k z h
def iSeq (K : PySem.W.Frag) (te : TE) : TI := fun σ H R => te σ H fun x H1 => ∃ a, x = .ref a ∧ (((∃ xs, SqL K H1 a xs) ∧ R (Itl K a) H1) ∨ ((∃ xs, SqT K H1 a xs) ∧ R (Itt K a) H1))
theorem kpi_seq {X : Cx} (K : PySem.W.Frag) {tg l : Expr} {tl : TE} (hl : PE X l tl) (hK : X.K = K := by rfl) : PI X tg l (iSeq K tl) := by
  subst hK
  intro pins s σ H R I h
  refine thn (hl pins s σ H _ I h) fun v s1 ⟨x, H1, I1, r1, q1⟩ => ?_
  obtain ⟨a, e, q1⟩ := q1
  subst e
  cases r1
  rcases q1 with ⟨⟨xs, hq⟩, q⟩ | ⟨⟨xs, hq⟩, q⟩
  · obtain ⟨its, rv, p, hz⟩ := I1.list hq
    refine wpAny_pyIter_list p.isList ?_
    refine ⟨s1.heap.objs.size, [s1.heap.objs.size], _, _, H1, rfl, I1.kept (t' := s1.toks) fun b o e => Heap.get?_push_of_some _ e, turn_list a _, ⟨_, Heap.get?_push_size _ rfl, rfl, rfl⟩, fun b hb => ?_, q⟩
    have e : b = s1.heap.objs.size := by simpa using hb
    subst e
    exact I1.fpOk (Nat.le_refl _) (I1.hok.fresh (Nat.le_refl _))
  · obtain ⟨its, rv, p, hz⟩ := I1.tuple hq
    refine wpAny_pyIter_tuple (show s1.heap.IsTuple a its.toArray from p) ?_
    refine ⟨s1.heap.objs.size, [s1.heap.objs.size], _, _, H1, rfl, I1.kept (t' := s1.toks) fun b o e => Heap.get?_push_of_some _ e, turn_tuple a _, ⟨_, Heap.get?_push_size _ rfl, rfl, rfl⟩, fun b hb => ?_, q⟩
    have e : b = s1.heap.objs.size := by simpa using hb
    subst e
    exact I1.fpOk (Nat.le_refl _) (I1.hok.fresh (Nat.le_refl _))
theorem i_iSeq {K : PySem.W.Frag} {σ : St} {H : Hp} {te : TE} {R : It → Hp → Prop} (h : te σ H fun x H1 => ∃ a, x = .ref a ∧ (((∃ xs, SqL K H1 a xs) ∧ R (Itl K a) H1) ∨ ((∃ xs, SqT K H1 a xs) ∧ R (Itt K a) H1))) : iSeq K te σ H R := h
inductive Pt where
  | s (z : Str)
  | i (n : Int)
def Pt.v : Pt → V
  | .s z => .str z
  | .i n => .int n
def Pt.tx : Pt → Str
  | .s z => z
  | .i n => Str.ofString (toString n)
def rowT (ps : List Pt) : Str := Tx (ps.map Pt.tx)
theorem i_extend {H : Hp} {Q : VK} {l b : Addr} {xs zs : List V} (h1 : H l = some (.lst xs)) (h2 : H b = some (.lst zs)) (hz : xs.length + zs.length ≤ sizeLine) (h : Q .non (upd H l (.lst (xs ++ zs)))) : rExtend (.ref l) [.ref b] H Q := ⟨l, b, xs, zs, rfl, rfl, h1, h2, hz, h⟩
theorem i_joinN {out : Str} {σ : St} {H : Hp} {Q : VK} (hz : out.length ≤ sizeLine) (h : Q (.str out) H) : tJoin [] out σ H Q := ⟨hz, h⟩
theorem i_joinC {t : TE} {r : List TE} {out : Str} {σ : St} {H : Hp} {Q : VK} (h : t σ H fun x H1 => ∃ y, x = .str y ∧ (out ++ y).length ≤ sizeLine ∧ tJoin r (out ++ y) σ H1 Q) : tJoin (t :: r) out σ H Q := h
theorem i_fmt {te : TE} {σ : St} {H : Hp} {Q : VK} (h : te σ H fun x H1 => (∃ z, x = .str z ∧ z.length ≤ sizeLine ∧ Q (.str z) H1) ∨ ∃ i : Int, x = .int i ∧ i.natAbs.log2 < 1920 ∧ Q (.str (toString i)) H1) : tFmt te σ H Q := h
theorem i_fmS {z : Str} {A : Str → Prop} {B : Int → Prop} (h : A z) : (∃ y, V.str z = .str y ∧ A y) ∨ ∃ i : Int, V.str z = .int i ∧ B i := .inl ⟨z, rfl, h⟩
theorem i_fmI {i : Int} {A : Str → Prop} {B : Int → Prop} (h : B i) : (∃ y, V.int i = .str y ∧ A y) ∨ ∃ j : Int, V.int i = .int j ∧ B j := .inr ⟨i, rfl, h⟩
theorem tx_br {l r s : Str} {A B : List Str} (hA : A ≠ []) (hB : B ≠ []) : Tx [l, Tx A, s, Tx B, r] = Tx (l :: ((A ++ s :: B) ++ [r])) := by
  rw [tx_cons l (by simp), tx_cons (Tx A) (by simp), tx_cons s (by simp), tx_cons (Tx B) (by simp), tx_cons l (by simp), tx_snoc r (by simp), tx_mid s hA hB, show Tx [r] = r from rfl]
  simp only [sx_assoc]
theorem tx_3 {s : Str} {A B : List Str} (hA : A ≠ []) (hB : B ≠ []) : Tx [Tx A, s, Tx B] = Tx (A ++ s :: B) := by
  rw [tx_cons (Tx A) (by simp), tx_cons s (by simp), tx_mid s hA hB, show Tx [Tx B] = Tx B from rfl]
  simp only [sx_assoc]
end L2
namespace L2
open PySem
def Pt.tr : Pt → Tr
  | .s z => .str z
  | .i n => .int n
def Ex.tr : Ex → Tr
  | .num i => .tup [.str "number", .int i]
  | .box n => .tup [.str "box", .str n]
  | .two k a b => .tup [.str (markS k), a.tr, b.tr]
def Cd.tr : Cd → Tr
  | .cmp k a b => .tup [.str (markC k), a.tr, b.tr]
  | .nt c => .tup [.str "not", c.tr]
  | .both c d => .tup [.str "both", c.tr, d.tr]
mutual
inductive Stm where
  | plain (ps : List Pt)
  | put (n : Str) (e : Ex)
  | loop (b : List Stm)
  | wait (n : Int) (bs : List Br)
  | test (c : Cd) (a b : List Stm)
inductive Br where
  | mk (p : List Pt) (b : List Stm)
end
def bodyT (x : Tr) : Tr := x
mutual
def Stm.tr : Stm → Tr
  | .plain ps => .tup (ps.map Pt.tr)
  | .put n e => .tup [.str "put", .str n, e.tr]
  | .loop b => .tup [.str "loop", .lst (Stm.trs b)]
  | .wait n bs => .tup [.str "wait", .int n, .lst (Br.trs bs)]
  | .test c a b => .tup [.str "test", c.tr, .lst (Stm.trs a), .lst (Stm.trs b)]
def Br.tr : Br → Tr
  | .mk p b => .tup [.tup (p.map Pt.tr), .lst (Stm.trs b)]
def Stm.trs : List Stm → List Tr
  | [] => []
  | s :: r => s.tr :: Stm.trs r
def Br.trs : List Br → List Tr
  | [] => []
  | s :: r => s.tr :: Br.trs r
end
abbrev blk : Str := Str.ofString "  "
def inn (ys : List Str) : List Str := ys.map fun y => blk ++ y
def blockR (head : Str) (ys : List Str) : List Str := head :: inn ys ++ [Str.ofString "end"]
def elseR : List Str → List Str → List Str
  | [], _ => []
  | _ :: _, r => Str.ofString "else" :: r
mutual
def Stm.rows : Stm → List Str
  | .plain ps => [Tx (ps.map Pt.tx)]
  | .put n e => [Tx [Str.ofString "put", n, Tx e.words]]
  | .loop b => blockR (Str.ofString "loop") (Stm.rowsL b)
  | .wait n bs => blockR (Str.ofString "wait " ++ Str.ofString (toString n)) (Br.rowsL bs)
  | .test c a b => (Str.ofString "if " ++ Tx c.words) :: inn (Stm.rowsL a) ++ (if b.isEmpty then [] else Str.ofString "else" :: inn (Stm.rowsL b)) ++ [Str.ofString "end"]
def Br.rows : Br → List Str
  | .mk p b => (Str.ofString "on " ++ Tx (p.map Pt.tx)) :: inn (Stm.rowsL b)
def Stm.rowsL : List Stm → List Str
  | [] => []
  | s :: r => s.rows ++ Stm.rowsL r
def Br.rowsL : List Br → List Str
  | [] => []
  | s :: r => s.rows ++ Br.rowsL r
end
def Pt.ok : Pt → Prop
  | .s z => z.length ≤ 8
  | .i n => 0 ≤ n ∧ n < 10
mutual
def Stm.ok (ys : List Str) : Nat → Stm → Prop
  | _, .plain ps => ps.length ≤ 3 ∧ (∀ p ∈ ps, p.ok) ∧ ∃ k r, ps = .s k :: r ∧ k ∉ [Str.ofString "test", Str.ofString "wait", Str.ofString "loop", Str.ofString "put"]
  | _, .put n e => n ∈ ys ∧ e.ok ys ∧ e.h ≤ 5
  | 0, .loop b => False
  | d + 1, .loop b => Stm.oks ys d b
  | 0, .wait n bs => False
  | d + 1, .wait n bs => (0 ≤ n ∧ n < 10) ∧ Br.oks ys d bs
  | 0, .test c a b => False
  | d + 1, .test c a b => c.ok ys 5 ∧ c.h ≤ 3 ∧ Stm.oks ys d a ∧ Stm.oks ys d b
def Br.ok (ys : List Str) : Nat → Br → Prop
  | d, .mk p b => p.length ≤ 3 ∧ (∀ x ∈ p, x.ok) ∧ Stm.oks ys d b
def Stm.oks (ys : List Str) : Nat → List Stm → Prop
  | _, [] => True
  | d, s :: r => s.ok ys d ∧ Stm.oks ys d r
def Br.oks (ys : List Str) : Nat → List Br → Prop
  | _, [] => True
  | d, s :: r => s.ok ys d ∧ Br.oks ys d r
end
end L2
namespace L2
open PySem
theorem Ex.of_tr {H : Hp} : ∀ {e : Ex} {v : V} {fs : List Addr}, e.tr.At H v fs → e.At H v
  | .num i, v, fs, h => by
    simp only [Ex.tr, Tr.At, Tr.Ats] at h
    obtain ⟨a, vs, rfl, e, _, _, _, _, rfl, _, ⟨rfl, _⟩, _, _, _, _, rfl, _, ⟨rfl, _⟩, rfl, _⟩ := h
    exact ⟨a, rfl, e⟩
  | .box i, v, fs, h => by
    simp only [Ex.tr, Tr.At, Tr.Ats] at h
    obtain ⟨a, vs, rfl, e, _, _, _, _, rfl, _, ⟨rfl, _⟩, _, _, _, _, rfl, _, ⟨rfl, _⟩, rfl, _⟩ := h
    exact ⟨a, rfl, e⟩
  | .two k x y, v, fs, h => by
    simp only [Ex.tr, Tr.At, Tr.Ats] at h
    obtain ⟨a, vs, rfl, e, _, _, _, _, rfl, _, ⟨rfl, _⟩, w1, _, _, _, rfl, _, h1, w2, _, _, _, rfl, _, h2, rfl, _⟩ := h
    exact ⟨a, w1, w2, rfl, e, Ex.of_tr h1, Ex.of_tr h2⟩
theorem Ex.to_tr {H : Hp} : ∀ {e : Ex} {v : V}, e.At H v → e.tr.At H v []
  | .num i, v, h => by
    obtain ⟨a, rfl, e⟩ := h
    simp only [Ex.tr, Tr.At, Tr.Ats]
    exact ⟨a, _, rfl, e, _, _, [], [], rfl, rfl, ⟨rfl, rfl⟩, _, _, [], [], rfl, rfl, ⟨rfl, rfl⟩, rfl, rfl⟩
  | .box i, v, h => by
    obtain ⟨a, rfl, e⟩ := h
    simp only [Ex.tr, Tr.At, Tr.Ats]
    exact ⟨a, _, rfl, e, _, _, [], [], rfl, rfl, ⟨rfl, rfl⟩, _, _, [], [], rfl, rfl, ⟨rfl, rfl⟩, rfl, rfl⟩
  | .two k x y, v, h => by
    obtain ⟨a, w1, w2, rfl, e, h1, h2⟩ := h
    simp only [Ex.tr, Tr.At, Tr.Ats]
    exact ⟨a, _, rfl, e, _, _, [], [], rfl, rfl, ⟨rfl, rfl⟩, _, _, [], [], rfl, rfl, Ex.to_tr h1, _, _, [], [], rfl, rfl, Ex.to_tr h2, rfl, rfl⟩
theorem Cd.of_tr {H : Hp} : ∀ {c : Cd} {v : V} {fs : List Addr}, c.tr.At H v fs → c.At H v
  | .cmp k x y, v, fs, h => by
    simp only [Cd.tr, Tr.At, Tr.Ats] at h
    obtain ⟨a, vs, rfl, e, _, _, _, _, rfl, _, ⟨rfl, _⟩, w1, _, _, _, rfl, _, h1, w2, _, _, _, rfl, _, h2, rfl, _⟩ := h
    exact ⟨a, w1, w2, rfl, e, Ex.of_tr h1, Ex.of_tr h2⟩
  | .nt c, v, fs, h => by
    simp only [Cd.tr, Tr.At, Tr.Ats] at h
    obtain ⟨a, vs, rfl, e, _, _, _, _, rfl, _, ⟨rfl, _⟩, w1, _, _, _, rfl, _, h1, rfl, _⟩ := h
    exact ⟨a, w1, rfl, e, Cd.of_tr h1⟩
  | .both x y, v, fs, h => by
    simp only [Cd.tr, Tr.At, Tr.Ats] at h
    obtain ⟨a, vs, rfl, e, _, _, _, _, rfl, _, ⟨rfl, _⟩, w1, _, _, _, rfl, _, h1, w2, _, _, _, rfl, _, h2, rfl, _⟩ := h
    exact ⟨a, w1, w2, rfl, e, Cd.of_tr h1, Cd.of_tr h2⟩
theorem Cd.to_tr {H : Hp} : ∀ {c : Cd} {v : V}, c.At H v → c.tr.At H v []
  | .cmp k x y, v, h => by
    obtain ⟨a, w1, w2, rfl, e, h1, h2⟩ := h
    simp only [Cd.tr, Tr.At, Tr.Ats]
    exact ⟨a, _, rfl, e, _, _, [], [], rfl, rfl, ⟨rfl, rfl⟩, _, _, [], [], rfl, rfl, Ex.to_tr h1, _, _, [], [], rfl, rfl, Ex.to_tr h2, rfl, rfl⟩
  | .nt c, v, h => by
    obtain ⟨a, w1, rfl, e, h1⟩ := h
    simp only [Cd.tr, Tr.At, Tr.Ats]
    exact ⟨a, _, rfl, e, _, _, [], [], rfl, rfl, ⟨rfl, rfl⟩, _, _, [], [], rfl, rfl, Cd.to_tr h1, rfl, rfl⟩
  | .both x y, v, h => by
    obtain ⟨a, w1, w2, rfl, e, h1, h2⟩ := h
    simp only [Cd.tr, Tr.At, Tr.Ats]
    exact ⟨a, _, rfl, e, _, _, [], [], rfl, rfl, ⟨rfl, rfl⟩, _, _, [], [], rfl, rfl, Cd.to_tr h1, _, _, [], [], rfl, rfl, Cd.to_tr h2, rfl, rfl⟩
theorem Pt.at {H : Hp} : ∀ {p : Pt} {v : V} {fs : List Addr}, p.tr.At H v fs → v = p.v
  | .s _, _, _, h => by simp only [Pt.tr, Tr.At] at h; exact h.1
  | .i _, _, _, h => by simp only [Pt.tr, Tr.At] at h; exact h.1
theorem Pt.ats {H : Hp} : ∀ {ps : List Pt} {vs : List V} {fs : List Addr}, Tr.Ats H (ps.map Pt.tr) vs fs → vs = ps.map Pt.v
  | [], _, _, h => by simp only [List.map_nil, Tr.Ats] at h; exact h.1
  | p :: ps, _, _, h => by
    simp only [List.map_cons, Tr.Ats] at h
    obtain ⟨v, ws, _, _, rfl, _, h1, h2⟩ := h
    rw [Pt.at h1, Pt.ats h2]
    rfl
theorem Pt.parts : ∀ {ps : List Pt}, (∀ p ∈ ps, p.ok) → PartsS (ps.map Pt.v) (ps.map Pt.tx)
  | [], _ => .nil
  | p :: ps, h => by
    refine .cons ?_ (Pt.parts fun q m => h q (List.mem_cons_of_mem _ m))
    have := h p (by simp)
    cases p with
    | s z => exact .inr rfl
    | i n =>
      have h' : 0 ≤ n ∧ n < 10 := this
      exact .inl ⟨n, rfl, by omega, rfl⟩
theorem Pt.len {p : Pt} (h : p.ok) : p.tx.length ≤ 8 := by
  cases p with
  | s z => exact h
  | i n =>
    have := dig_len h.1 h.2
    simp only [Pt.tx]
    omega
theorem Pt.sum : ∀ {ps : List Pt}, (∀ p ∈ ps, p.ok) → ((ps.map Pt.tx).map (·.length)).sum ≤ 8 * ps.length
  | [], _ => by simp
  | p :: ps, h => by
    have h1 := Pt.len (h p (by simp))
    have h2 := Pt.sum (ps := ps) fun q m => h q (List.mem_cons_of_mem _ m)
    simp only [List.map_cons, List.sum_cons, List.length_cons]
    omega
theorem Stm.oks_get {ys : List Str} {d : Nat} : ∀ {b : List Stm} {i : Nat} {s : Stm}, Stm.oks ys d b → b[i]? = some s → s.ok ys d
  | [], _, _, _, e => by simp at e
  | x :: b, 0, s, h, e => by
    simp only [Stm.oks] at h
    simp at e
    exact e ▸ h.1
  | x :: b, i + 1, s, h, e => by
    simp only [Stm.oks] at h
    exact Stm.oks_get h.2 (by simpa using e)
theorem Br.oks_get {ys : List Str} {d : Nat} : ∀ {b : List Br} {i : Nat} {s : Br}, Br.oks ys d b → b[i]? = some s → s.ok ys d
  | [], _, _, _, e => by simp at e
  | x :: b, 0, s, h, e => by
    simp only [Br.oks] at h
    simp at e
    exact e ▸ h.1
  | x :: b, i + 1, s, h, e => by
    simp only [Br.oks] at h
    exact Br.oks_get h.2 (by simpa using e)
theorem Stm.rowsL_app : ∀ (a b : List Stm), Stm.rowsL (a ++ b) = Stm.rowsL a ++ Stm.rowsL b
  | [], b => by simp [Stm.rowsL]
  | x :: a, b => by simp [Stm.rowsL, Stm.rowsL_app a b]
theorem Br.rowsL_app : ∀ (a b : List Br), Br.rowsL (a ++ b) = Br.rowsL a ++ Br.rowsL b
  | [], b => by simp [Br.rowsL]
  | x :: a, b => by simp [Br.rowsL, Br.rowsL_app a b]
theorem Stm.rowsL_snoc {b : List Stm} {i : Nat} {s : Stm} (e : b[i]? = some s) : Stm.rowsL (b.take (i + 1)) = Stm.rowsL (b.take i) ++ s.rows := by
  rw [List.take_add_one, e, Stm.rowsL_app]
  simp [Stm.rowsL]
theorem Br.rowsL_snoc {b : List Br} {i : Nat} {s : Br} (e : b[i]? = some s) : Br.rowsL (b.take (i + 1)) = Br.rowsL (b.take i) ++ s.rows := by
  rw [List.take_add_one, e, Br.rowsL_app]
  simp [Br.rowsL]
theorem Stm.trs_eq : ∀ (b : List Stm), Stm.trs b = b.map Stm.tr
  | [] => by simp [Stm.trs]
  | x :: b => by simp [Stm.trs, Stm.trs_eq b]
theorem Br.trs_eq : ∀ (b : List Br), Br.trs b = b.map Br.tr
  | [] => by simp [Br.trs]
  | x :: b => by simp [Br.trs, Br.trs_eq b]
def Fit (ys : List Str) : Prop := ys.length ≤ 50000 ∧ ∀ y ∈ ys, y.length ≤ 50000
theorem Fit.app {a b : List Str} (h : Fit (a ++ b)) : Fit a ∧ Fit b := by
  obtain ⟨h1, h2⟩ := h
  rw [List.length_append] at h1
  exact ⟨⟨by omega, fun y m => h2 y (by simp [m])⟩, ⟨by omega, fun y m => h2 y (by simp [m])⟩⟩
theorem Fit.cons {x : Str} {b : List Str} (h : Fit (x :: b)) : x.length ≤ 50000 ∧ Fit b := ⟨h.2 x (by simp), ⟨by have := h.1; simp only [List.length_cons] at this; omega, fun y m => h.2 y (by simp [m])⟩⟩
theorem Fit.inn {b : List Str} (h : Fit (inn b)) : Fit b := by
  refine ⟨by have := h.1; simpa [L2.inn] using this, fun y m => ?_⟩
  have := h.2 (blk ++ y) (List.mem_map.mpr ⟨y, m, rfl⟩)
  rw [sx_len] at this
  omega
theorem Fit.block {head : Str} {b : List Str} (h : Fit (blockR head b)) : head.length ≤ 50000 ∧ Fit b := by
  unfold blockR at h
  rw [List.cons_append] at h
  exact ⟨h.cons.1, h.cons.2.app.1.inn⟩
theorem Fit.take {b : List Stm} {i : Nat} {s : Stm} (h : Fit (Stm.rowsL b)) (e : b[i]? = some s) : Fit s.rows ∧ (Stm.rowsL (b.take i)).length + s.rows.length ≤ 50000 := by
  have e2 : Stm.rowsL b = Stm.rowsL (b.take (i + 1)) ++ Stm.rowsL (b.drop (i + 1)) := by rw [← Stm.rowsL_app, List.take_append_drop]
  rw [e2, Stm.rowsL_snoc e] at h
  have := h.app.1
  refine ⟨this.app.2, ?_⟩
  have := this.1
  rwa [List.length_append] at this
theorem Fit.takeB {b : List Br} {i : Nat} {s : Br} (h : Fit (Br.rowsL b)) (e : b[i]? = some s) : Fit s.rows ∧ (Br.rowsL (b.take i)).length + s.rows.length ≤ 50000 := by
  have e2 : Br.rowsL b = Br.rowsL (b.take (i + 1)) ++ Br.rowsL (b.drop (i + 1)) := by rw [← Br.rowsL_app, List.take_append_drop]
  rw [e2, Br.rowsL_snoc e] at h
  have := h.app.1
  refine ⟨this.app.2, ?_⟩
  have := this.1
  rwa [List.length_append] at this
end L2
namespace L2
open PySem
section
variable {H : Hp} {v : V} {fs : List Addr}
theorem plain_view {ps : List Pt} (h : (Stm.plain ps).tr.At H v fs) : ∃ a, v = .ref a ∧ H a = some (.tup (ps.map Pt.v)) := by
  simp only [Stm.tr, Tr.At] at h
  obtain ⟨a, vs, rfl, e, h⟩ := h
  rw [Pt.ats h] at e
  exact ⟨a, rfl, e⟩
theorem put_view {n : Str} {x : Ex} (h : (Stm.put n x).tr.At H v fs) : ∃ a u, v = .ref a ∧ H a = some (.tup [.str "put", .str n, u]) ∧ x.At H u := by
  simp only [Stm.tr, Tr.At, Tr.Ats] at h
  obtain ⟨a, vs, rfl, e, _, _, _, _, rfl, _, ⟨rfl, _⟩, _, _, _, _, rfl, _, ⟨rfl, _⟩, u, _, _, _, rfl, _, h, rfl, _⟩ := h
  exact ⟨a, u, rfl, e, Ex.of_tr h⟩
theorem loop_view {b : List Stm} (h : (Stm.loop b).tr.At H v fs) : ∃ a l vs gs, v = .ref a ∧ H a = some (.tup [.str "loop", .ref l]) ∧ H l = some (.lst vs) ∧ Tr.Ats H (Stm.trs b) vs gs := by
  simp only [Stm.tr, Tr.At, Tr.Ats] at h
  obtain ⟨a, vs, rfl, e, _, _, _, _, rfl, _, ⟨rfl, _⟩, _, _, _, _, rfl, _, ⟨l, ws, gs, rfl, hl, h, _⟩, rfl, _⟩ := h
  exact ⟨a, l, ws, gs, rfl, e, hl, h⟩
theorem wait_view {n : Int} {bs : List Br} (h : (Stm.wait n bs).tr.At H v fs) : ∃ a l vs gs, v = .ref a ∧ H a = some (.tup [.str "wait", .int n, .ref l]) ∧ H l = some (.lst vs) ∧ Tr.Ats H (Br.trs bs) vs gs := by
  simp only [Stm.tr, Tr.At, Tr.Ats] at h
  obtain ⟨a, vs, rfl, e, _, _, _, _, rfl, _, ⟨rfl, _⟩, _, _, _, _, rfl, _, ⟨rfl, _⟩, _, _, _, _, rfl, _, ⟨l, ws, gs, rfl, hl, h, _⟩, rfl, _⟩ := h
  exact ⟨a, l, ws, gs, rfl, e, hl, h⟩
theorem test_view {c : Cd} {x y : List Stm} (h : (Stm.test c x y).tr.At H v fs) : ∃ a u l m vs ws fs gs, v = .ref a ∧ H a = some (.tup [.str "test", u, .ref l, .ref m]) ∧ c.At H u ∧ H l = some (.lst vs) ∧ Tr.Ats H (Stm.trs x) vs fs ∧ H m = some (.lst ws) ∧ Tr.Ats H (Stm.trs y) ws gs := by
  simp only [Stm.tr, Tr.At, Tr.Ats] at h
  obtain ⟨a, vs, rfl, e, _, _, _, _, rfl, _, ⟨rfl, _⟩, u, _, _, _, rfl, _, hc, _, _, _, _, rfl, _, ⟨l, ws, gs, rfl, hl, h, _⟩, _, _, _, _, rfl, _, ⟨m, ws2, gs2, rfl, hm, h2, _⟩, rfl, _⟩ := h
  exact ⟨a, u, l, m, ws, ws2, gs, gs2, rfl, e, Cd.of_tr hc, hl, h, hm, h2⟩
theorem br_view {p : List Pt} {b : List Stm} (h : (Br.mk p b).tr.At H v fs) : ∃ a c l vs gs, v = .ref a ∧ H a = some (.tup [.ref c, .ref l]) ∧ H c = some (.tup (p.map Pt.v)) ∧ H l = some (.lst vs) ∧ Tr.Ats H (Stm.trs b) vs gs := by
  simp only [Br.tr, Tr.At, Tr.Ats] at h
  obtain ⟨a, vs, rfl, e, _, _, _, _, rfl, _, ⟨c, ws, rfl, hc, hp⟩, _, _, _, _, rfl, _, ⟨l, us, gs, rfl, hl, h, _⟩, rfl, _⟩ := h
  rw [Pt.ats hp] at hc
  exact ⟨a, c, l, us, gs, rfl, e, hc, hl, h⟩
theorem stm_get {b : List Stm} {vs : List V} (h : Tr.Ats H (Stm.trs b) vs fs) {i : Nat} {x : V} (e : vs[i]? = some x) : ∃ s f, b[i]? = some s ∧ s.tr.At H x f ∧ ∀ a ∈ f, a ∈ fs := by
  obtain ⟨t, f, h1, h2, h3⟩ := h.get i x e
  rw [Stm.trs_eq, List.getElem?_map] at h1
  cases hb : b[i]? with
  | none => rw [hb] at h1; cases h1
  | some s =>
    rw [hb] at h1
    cases h1
    exact ⟨s, f, rfl, h2, h3⟩
theorem br_get {b : List Br} {vs : List V} (h : Tr.Ats H (Br.trs b) vs fs) {i : Nat} {x : V} (e : vs[i]? = some x) : ∃ s f, b[i]? = some s ∧ s.tr.At H x f ∧ ∀ a ∈ f, a ∈ fs := by
  obtain ⟨t, f, h1, h2, h3⟩ := h.get i x e
  rw [Br.trs_eq, List.getElem?_map] at h1
  cases hb : b[i]? with
  | none => rw [hb] at h1; cases h1
  | some s =>
    rw [hb] at h1
    cases h1
    exact ⟨s, f, rfl, h2, h3⟩
theorem trs_len {b : List Stm} {vs : List V} (h : Tr.Ats H (Stm.trs b) vs fs) : vs.length = b.length := by rw [h.len, Stm.trs_eq, List.length_map]
theorem btrs_len {b : List Br} {vs : List V} (h : Tr.Ats H (Br.trs b) vs fs) : vs.length = b.length := by rw [h.len, Br.trs_eq, List.length_map]
end
end L2
namespace L2
open PySem
def boxT (x : Str × Int) : Tr := .tup [.str x.1, .int x.2]
def talkT (x : Str × List Stm) : Tr := .tup [.str x.1, .lst (Stm.trs x.2)]
def scrT (bs : List (Str × Int)) (ts : List (Str × List Stm)) : Tr := .tup [.lst (bs.map boxT), .lst (ts.map talkT)]
def boxR (x : Str × Int) : Str := Str.ofString "box " ++ x.1 ++ Str.ofString " " ++ Str.ofString (toString x.2)
def talkR (x : Str × List Stm) : List Str := blockR (Str.ofString "talk " ++ x.1) (Stm.rowsL x.2)
def talksR (ts : List (Str × List Stm)) : List Str := ts.flatMap talkR
def scrR (bs : List (Str × Int)) (ts : List (Str × List Stm)) : List Str := bs.map boxR ++ talksR ts
section
variable {H : Hp} {v : V} {fs : List Addr}
theorem scr_view {bs : List (Str × Int)} {ts : List (Str × List Stm)} (h : (scrT bs ts).At H v fs) : ∃ a l m us ws f g, v = .ref a ∧ H a = some (.tup [.ref l, .ref m]) ∧ H l = some (.lst us) ∧ Tr.Ats H (bs.map boxT) us f ∧ H m = some (.lst ws) ∧ Tr.Ats H (ts.map talkT) ws g := by
  simp only [scrT, Tr.At, Tr.Ats] at h
  obtain ⟨a, vs, rfl, e, _, _, _, _, rfl, _, ⟨l, us, f, rfl, hl, h1, _⟩, _, _, _, _, rfl, _, ⟨m, ws, g, rfl, hm, h2, _⟩, rfl, _⟩ := h
  exact ⟨a, l, m, us, ws, f, g, rfl, e, hl, h1, hm, h2⟩
theorem box_get {bs : List (Str × Int)} {us : List V} (h : Tr.Ats H (bs.map boxT) us fs) {i : Nat} {x : V} (e : us[i]? = some x) : ∃ b a, bs[i]? = some b ∧ x = .ref a ∧ H a = some (.tup [.str b.1, .int b.2]) := by
  obtain ⟨t, f, h1, h2, h3⟩ := h.get i x e
  rw [List.getElem?_map] at h1
  cases hb : bs[i]? with
  | none => rw [hb] at h1; cases h1
  | some s =>
    rw [hb] at h1
    cases h1
    simp only [boxT, Tr.At, Tr.Ats] at h2
    obtain ⟨a, vs, rfl, e, _, _, _, _, rfl, _, ⟨rfl, _⟩, _, _, _, _, rfl, _, ⟨rfl, _⟩, rfl, _⟩ := h2
    exact ⟨s, a, rfl, rfl, e⟩
theorem talk_get {ts : List (Str × List Stm)} {us : List V} (h : Tr.Ats H (ts.map talkT) us fs) {i : Nat} {x : V} (e : us[i]? = some x) : ∃ b a l vs gs, ts[i]? = some b ∧ x = .ref a ∧ H a = some (.tup [.str b.1, .ref l]) ∧ H l = some (.lst vs) ∧ Tr.Ats H (Stm.trs b.2) vs gs := by
  obtain ⟨t, f, h1, h2, h3⟩ := h.get i x e
  rw [List.getElem?_map] at h1
  cases hb : ts[i]? with
  | none => rw [hb] at h1; cases h1
  | some s =>
    rw [hb] at h1
    cases h1
    simp only [talkT, Tr.At, Tr.Ats] at h2
    obtain ⟨a, vs, rfl, e, _, _, _, _, rfl, _, ⟨rfl, _⟩, _, _, _, _, rfl, _, ⟨l, ws, gs, rfl, hl, h, _⟩, rfl, _⟩ := h2
    exact ⟨s, a, l, ws, gs, rfl, rfl, e, hl, h⟩
end
theorem talksR_snoc {b : List (Str × List Stm)} {i : Nat} {s : Str × List Stm} (e : b[i]? = some s) : talksR (b.take (i + 1)) = talksR (b.take i) ++ talkR s := by
  unfold talksR
  rw [List.take_add_one, e]
  simp
theorem Fit.talk {b : List (Str × List Stm)} {i : Nat} {s : Str × List Stm} (h : Fit (talksR b)) (e : b[i]? = some s) : Fit (talkR s) ∧ (talksR (b.take i)).length + (talkR s).length ≤ 50000 := by
  have e2 : talksR b = talksR (b.take (i + 1)) ++ talksR (b.drop (i + 1)) := by
    unfold talksR
    rw [← List.flatMap_append, List.take_append_drop]
  rw [e2, talksR_snoc e] at h
  have := h.app.1
  refine ⟨this.app.2, ?_⟩
  have := this.1
  rwa [List.length_append] at this
end L2
namespace L2
open PySem PySem.Spec PyProof.Rows
section
variable {X : Cx}
def rNeT : R2 := fun x y H Q => ∃ t fs gs, (Tr.lst t).At H x fs ∧ (Tr.lst t).At H y gs ∧ Tr.hs t ≤ 60 ∧ Q (.bl false) H
theorem kop_neT (hu : X.A.units + 64 < cLine) : OpR X (compareOp .NotEq) rNeT := by
  intro pins s σ H x y v u Q I rx ry h
  obtain ⟨t, fs, gs, h1, h2, hh, q⟩ := h
  simp only [Tr.At] at h1 h2
  obtain ⟨a, vs, _, rfl, e1, c1, _⟩ := h1
  obtain ⟨b, ws, _, rfl, e2, c2, _⟩ := h2
  cases rx
  cases ry
  obtain ⟨is1, q1, p1, _⟩ := I.list (SqL.of e1)
  obtain ⟨is2, q2, p2, _⟩ := I.list (SqL.of e2)
  have hl : is1.length = is2.length := by rw [← q1.length, ← q2.length, c1.len, c2.len]
  have := SeqAt.RcNeAt.lists (A := X.A) (s := s) (e := fun _ => true) p1.isList p2.isList (by simpa using hl) (by omega) (fun j h1 h2 => by
    have := Tr.eqAts I (A := X.A.in1) c1 c2 q1 q2 (by rw [in1_units]; omega) j (by simpa using h1) (by simpa using h2)
    simpa using this)
  rw [all_tt] at this
  exact this _ _ _ _ ⟨.bl false, H, I, rfl, q⟩
theorem i_neT {H : Hp} {Q : VK} {x y : V} {t : List Tr} {fs gs : List Addr} (h1 : (Tr.lst t).At H x fs) (h2 : (Tr.lst t).At H y gs) (hh : Tr.hs t ≤ 60) (h : Q (.bl false) H) : rNeT x y H Q := ⟨t, fs, gs, h1, h2, hh, h⟩
end
theorem ats_ints {H : Hp} : ∀ ns : List Int, Tr.Ats H (ns.map Tr.int) (ns.map V.int) []
  | [] => by simp [Tr.Ats]
  | n :: ns => by
    simp only [List.map_cons, Tr.Ats]
    exact ⟨_, _, [], [], rfl, rfl, by simp [Tr.At], ats_ints ns⟩
theorem at_ints {H : Hp} {l : Addr} {ns : List Int} (e : H l = some (.lst (ns.map V.int))) : (Tr.lst (ns.map Tr.int)).At H (.ref l) [l] := by
  simp only [Tr.At]
  exact ⟨l, _, [], rfl, e, ats_ints ns, rfl⟩
theorem hs_ints : ∀ ns : List Int, Tr.hs (ns.map Tr.int) = 0
  | [] => by simp [Tr.hs]
  | n :: ns => by simp [Tr.hs, Tr.h, hs_ints ns]
theorem cc_pairsT {K : PySem.W.Frag} {a : Addr} {xs : List V} {te : TE} {tt : TT} {caps : List Nat} {σ : St} {H : Hp} {Q : VK} (hz : xs.length ≤ sizeLine) (Pv : Nat → List V → Hp → Prop) (h0 : Pv 0 [] H) (hl : ∀ i acc H, Pv i acc H → acc.length ≤ i ∧ SqT K H a xs)
    (hs : ∀ i x acc H, xs[i]? = some x → Pv i acc H → ∃ p u v, x = .ref p ∧ SqT K H p [u, v] ∧ tt (some u :: some v :: capV caps σ) H fun b H4 => if b = true then te (some u :: some v :: capV caps σ) H4 fun y H5 => Pv (i + 1) (acc ++ [y]) H5 else Pv (i + 1) acc H4)
    (hd : ∀ acc H, Pv xs.length acc H → New H (.lst acc) Q) : CompEnd (Itt K a) (gTup K 2 (gCons (gName 0) (gCons (gName 1) gNil))) tt te 2 caps σ H Q := by
  refine ⟨fun i m acc σ' H => m = xs.length - i ∧ i ≤ xs.length ∧ (∃ u v, σ' = u :: v :: capV caps σ) ∧ Pv i acc H, ⟨xs.length, by simp, Nat.zero_le _, ⟨none, none, rfl⟩, h0⟩, ?_⟩
  rintro i m acc σ' H' ⟨rfl, hi, ⟨u0, v0, rfl⟩, p⟩
  obtain ⟨hl1, hq⟩ := hl i acc H' p
  by_cases hlt : i < xs.length
  · refine .inr ⟨⟨xs, xs[i], hq, by simp [hlt]⟩, by omega, fun ac σ2 H2 => (∃ u v, σ2 = u :: v :: capV caps σ) ∧ Pv (i + 1) ac H2, fun ac σ2 H2 ⟨e, p'⟩ => ⟨xs.length - (i + 1), by omega, rfl, hlt, e, p'⟩, fun x H2 y => ?_⟩
    obtain ⟨e, y⟩ := y
    subst e
    obtain ⟨q, u, v, rfl, hT, hst⟩ := hs i x acc _ (y xs hq) p
    have eN : ∀ ac H5, ((∃ u1 v1, some u :: some v :: capV caps σ = u1 :: v1 :: capV caps σ) ∧ Pv (i + 1) ac H5) = Pv (i + 1) ac H5 := fun ac H5 => propext ⟨And.right, fun p => ⟨⟨_, _, rfl⟩, p⟩⟩
    refine ⟨q, [u, v], rfl, hT, rfl, u, [v], rfl, v, [], rfl, rfl, ?_⟩
    show tt (some u :: some v :: capV caps σ) _ fun b H4 => if b = true then te (some u :: some v :: capV caps σ) H4 fun y H5 => ((∃ u1 v1, some u :: some v :: capV caps σ = u1 :: v1 :: capV caps σ) ∧ Pv (i + 1) (acc ++ [y]) H5) else ((∃ u1 v1, some u :: some v :: capV caps σ = u1 :: v1 :: capV caps σ) ∧ Pv (i + 1) acc H4)
    simp only [eN]
    exact hst
  · have e : i = xs.length := by omega
    subst e
    exact .inl ⟨⟨xs, hq, Nat.le_refl _⟩, New.to (hd acc H' p)⟩
inductive Prs (H : Hp) : List V → List Int → Prop
  | nil : Prs H [] []
  | cons {p : Addr} {u : V} {n : Int} {vs : List V} {ns : List Int} : H p = some (.tup [u, .int n]) → Prs H vs ns → Prs H (.ref p :: vs) (n :: ns)
theorem Prs.mono {H H' : Hp} (t : Tups H H') {vs : List V} {ns : List Int} (h : Prs H vs ns) : Prs H' vs ns := by
  induction h with
  | nil => exact .nil
  | cons e _ ih => exact .cons (t _ _ e) ih
theorem Prs.len {H : Hp} {vs : List V} {ns : List Int} (h : Prs H vs ns) : vs.length = ns.length := by
  induction h with
  | nil => rfl
  | cons e _ ih => simp [ih]
theorem Prs.snoc {H : Hp} {vs : List V} {ns : List Int} {p : Addr} {u : V} {n : Int} (h : Prs H vs ns) (e : H p = some (.tup [u, .int n])) : Prs H (vs ++ [.ref p]) (ns ++ [n]) := by
  induction h with
  | nil => exact .cons e .nil
  | cons e' _ ih => exact .cons e' ih
theorem Prs.get {H : Hp} {vs : List V} {ns : List Int} (h : Prs H vs ns) : ∀ (i : Nat) (x : V), vs[i]? = some x → ∃ p u n, x = .ref p ∧ H p = some (.tup [u, .int n]) ∧ ns[i]? = some n := by
  induction h with
  | nil => intro i x e; simp at e
  | cons e' _ ih =>
    intro i x e
    cases i with
    | zero =>
      simp at e
      exact ⟨_, _, _, e.symm, e', rfl⟩
    | succ i => exact ih i x (by simpa using e)
theorem mul_ok8 {c : Nat} {n : Int} (h0 : 0 ≤ n) (h8 : n ≤ 8) : MulOk ⟨#[c]⟩ n ∧ (Txt.mul ⟨#[c]⟩ n).length ≤ 8 := by
  have hn : n = 0 ∨ n = 1 ∨ n = 2 ∨ n = 3 ∨ n = 4 ∨ n = 5 ∨ n = 6 ∨ n = 7 ∨ n = 8 := by omega
  have hx : (⟨#[c]⟩ : Str).length = 1 := rfl
  have hs : sizeLine = 16777216 := sizeLine_eq
  refine ⟨⟨?_, fun _ _ => ?_, fun _ _ => ?_⟩, ?_⟩
  · rw [decide_eq_false (by omega), decide_eq_false (by omega)]; rfl
  · rw [hx]
    rcases hn with rfl | rfl | rfl | rfl | rfl | rfl | rfl | rfl | rfl <;> first | omega | decide
  · rw [hx]
    show decide (1 * n.toNat > sizeLine) = false
    exact decide_eq_false (by omega)
  · rcases hn with rfl | rfl | rfl | rfl | rfl | rfl | rfl | rfl | rfl
    · exact (show (0 : Nat) ≤ 8 by decide)
    · exact (show (1 : Nat) ≤ 8 by decide)
    · exact (show (2 : Nat) ≤ 8 by decide)
    · exact (show (3 : Nat) ≤ 8 by decide)
    · exact (show (4 : Nat) ≤ 8 by decide)
    · exact (show (5 : Nat) ≤ 8 by decide)
    · exact (show (6 : Nat) ≤ 8 by decide)
    · exact (show (7 : Nat) ≤ 8 by decide)
    · exact (show (8 : Nat) ≤ 8 by decide)
theorem ints_snoc {ns : List Int} {i : Nat} {n : Int} (e : ns[i]? = some n) : (ns.take i).map V.int ++ [V.int n] = (ns.take (i + 1)).map V.int := by
  rw [List.take_add_one, e]
  simp
theorem at3 (a b c : V) (x : Int) : ∃ v, atI [a, b, c] (x % 3) = some v := by
  have h : x % 3 = 0 ∨ x % 3 = 1 ∨ x % 3 = 2 := by omega
  rcases h with h | h | h <;> rw [h]
  · exact ⟨a, rfl⟩
  · exact ⟨b, rfl⟩
  · exact ⟨c, rfl⟩
end L2
namespace L2
def LedN (ws : List (Option Nat)) : Nat → Nat → Nat → Prop
  | 0, i, j => i = j ∧ ws[i]? = some none
  | m + 1, i, j => ∃ k, ws[i]? = some (some k) ∧ LedN ws m k j
def keptP (ws : List (Option Nat)) (n : Nat) : List Nat := (List.range n).filter fun i => decide (ws[i]? = some none)
def kept (ws : List (Option Nat)) : List Nat := keptP ws ws.length
structure Ups (ws : List (Option Nat)) : Prop where
  up : ∀ i k, ws[i]? = some (some k) → i < k ∧ k < ws.length
theorem Ups.led {ws : List (Option Nat)} (u : Ups ws) : ∀ (d i : Nat), ws.length ≤ i + d → i < ws.length → ∃ m j, LedN ws m i j
  | 0, i, h, h' => absurd h' (by omega)
  | d + 1, i, h, h' => by
    cases e : ws[i]? with
    | none => rw [List.getElem?_eq_none_iff] at e; omega
    | some o =>
      cases o with
      | none => exact ⟨0, i, rfl, e⟩
      | some k =>
        have := u.up i k e
        obtain ⟨m, j, h2⟩ := u.led d k (by omega) this.2
        exact ⟨m + 1, j, k, e, h2⟩
theorem LedN.end_ {ws : List (Option Nat)} : ∀ {m i j : Nat}, LedN ws m i j → ws[j]? = some none
  | 0, i, j, h => h.1 ▸ h.2
  | m + 1, i, j, h => by obtain ⟨k, _, h⟩ := h; exact LedN.end_ h
theorem keptP_succ (ws : List (Option Nat)) (n : Nat) : keptP ws (n + 1) = keptP ws n ++ if ws[n]? = some none then [n] else [] := by
  unfold keptP
  rw [List.range_succ, List.filter_append]
  congr 1
  by_cases h : ws[n]? = some none
  · simp [h]
  · simp [h]
theorem keptP_len (ws : List (Option Nat)) : ∀ n, (keptP ws n).length ≤ n := fun n => by
  unfold keptP
  exact Nat.le_trans (List.length_filter_le _ _) (by simp)
theorem kept_mem {ws : List (Option Nat)} {j : Nat} : j ∈ kept ws ↔ ws[j]? = some none := by
  unfold kept keptP
  rw [List.mem_filter]
  constructor
  · intro h; simpa using h.2
  · intro h
    have : j < ws.length := by
      rcases Nat.lt_or_ge j ws.length with q | q
      · exact q
      · rw [List.getElem?_eq_none q] at h; cases h
    exact ⟨List.mem_range.mpr this, by simpa using h⟩
theorem kept_lt {ws : List (Option Nat)} {j : Nat} (h : j ∈ kept ws) : j < ws.length := by
  unfold kept keptP at h
  exact List.mem_range.mp (List.mem_filter.mp h).1
theorem kept_nodup (ws : List (Option Nat)) : (kept ws).Nodup := List.Pairwise.filter _ List.nodup_range
structure Wout (ws : List (Option Nat)) (sf : List Nat) : Prop where
  len : sf.length = ws.length
  at_ : ∀ i k, sf[i]? = some k → ∃ m j, LedN ws m i j ∧ (kept ws)[k]? = some j
theorem Ups.wout {ws : List (Option Nat)} (u : Ups ws) : ∃ sf, Wout ws sf := by
  have h : ∀ i, i < ws.length → ∃ k m j, LedN ws m i j ∧ (kept ws)[k]? = some j := fun i hi => by
    obtain ⟨m, j, h⟩ := u.led ws.length i (by omega) hi
    obtain ⟨k, hk, e⟩ := List.getElem_of_mem (kept_mem.mpr h.end_)
    exact ⟨k, m, j, h, by rw [List.getElem?_eq_getElem hk, e]⟩
  have g : ∀ n, n ≤ ws.length → ∃ sf : List Nat, sf.length = n ∧ ∀ i k, sf[i]? = some k → ∃ m j, LedN ws m i j ∧ (kept ws)[k]? = some j := by
    intro n
    induction n with
    | zero => intro _; exact ⟨[], rfl, fun i k e => by simp at e⟩
    | succ n ih =>
      intro hn
      obtain ⟨sf, h1, h2⟩ := ih (by omega)
      obtain ⟨k, m, j, h3⟩ := h n (by omega)
      refine ⟨sf ++ [k], by simp [h1], fun i k' e => ?_⟩
      by_cases hi : i < sf.length
      · rw [List.getElem?_append_left hi] at e
        exact h2 i k' e
      · rw [List.getElem?_append_right (by omega)] at e
        have hi' : i - sf.length = 0 := by
          have := (List.getElem?_eq_some_iff.mp e).1
          simp at this; omega
        rw [hi'] at e
        simp at e
        subst e
        have : i = n := by omega
        subst this
        exact ⟨m, j, h3⟩
  obtain ⟨sf, h1, h2⟩ := g ws.length (Nat.le_refl _)
  exact ⟨sf, h1, h2⟩
theorem nodup_first {l : List Nat} (h : l.Nodup) {k j : Nat} (e : l[k]? = some j) : ∀ m, m < k → l[m]? ≠ some j := by
  intro m hm q
  obtain ⟨h1, e1⟩ := List.getElem?_eq_some_iff.mp e
  obtain ⟨h2, e2⟩ := List.getElem?_eq_some_iff.mp q
  have := (List.nodup_iff_pairwise_ne.mp h)
  rw [List.pairwise_iff_getElem] at this
  exact this m k h2 h1 hm (e2.trans e1.symm)
end L2
namespace L2
open PySem
section
variable {prog : Program} {w : World} {K : Type} [DecidableEq K] {knd : KeyKind prog w K} {A : Around} {E : Value → Shared → Prop} {s : Shared}
theorem plain_dul : plainId "dict.update.loop" = true := by decide +kernel
theorem entry_dul : entryFor table "dict.update.loop" = some Builtin.«dict.update.loop» := entryFor_of_fast (by kernel_rfl)
theorem miss_keys : typeLookup (.type "list") "keys" = pure none := am_miss_of_fast (by decide +kernel)
theorem getAttr?_miss_list {a : Addr} {o : Obj} {xs : Array Value} {k : Nat} {name : Str} {Q : Option Value → Shared → Prop}
    (hx : s.heap.get? a = some o) (hc : o.cls = .type "list") (hdat : o.data = .seq xs k) (hd : o.dict = none) (hmiss : typeLookup (.type "list") name = pure none) (hname : (["__module__", "__name__", "__qualname__", "__doc__", "__annotations__"] : List Str).contains name = false) (hA : A.handled = none)
    (h : ∀ h' tk, (∀ b o, s.heap.get? b = some o → h'.get? b = some o) → Q none { s with heap := h', toks := tk }) (hsz : name.length + 100 ≤ sizeLine := by size_fits) :
    wpAny (model prog w) A (getAttr? (.ref a) name) Q E s := by
  obtain ⟨c, dct, dat, sl⟩ := o
  simp only at hc hdat hd
  subst hc hdat hd
  obtain ⟨hp, g, d, tk, os⟩ := s
  have hT : ∀ tk', (⟨hp, g, d, tk', os⟩ : Shared).TypeIs (.ref a) "list" := fun _ => ⟨_, hx, rfl⟩
  have f1 := sub_AttributeError
  have f3 := F.slot_list_getattribute.lookup
  have f4 := F.slot_list_getattribute.bind (.ref a)
  have f5 := am_list_getattr_none
  unfold getAttr? getAttrBy? getAttrBy
  repeat (any_goals (first | assumption | exact hT _ | ((with_reducible show wpAny _ _ (call (Value.builtin "list.__getattribute__") _ _) _ _ _); refine call_meets F.slot_list_getattribute (hT _) am_entry_list_getattribute (F.args_list_getattribute_2 _ _) (meets_getattribute_miss_list a xs k sl name _ hmiss hname hsz) ⟨hx, hA, fun h' tk' e hx' => ?_⟩) | wp_step))
  obtain ⟨t', u', he⟩ := hx'.there
  show wpAny _ _ (getattributeRaised _ _ _ _ _ _ _) _ _ _
  unfold getattributeRaised
  repeat (any_goals (first | assumption | wp_step))
  exact h _ _ hx'.keeps
end
end L2
namespace L2
open PySem
section
variable {prog : Program} {w : World} {K : Type} [DecidableEq K] {knd : KeyKind prog w K} {A : Around} {E : Value → Shared → Prop} {s : Shared}
def PairsAt (knd : KeyKind prog w K) (h : Heap) (items : Array Value) (ps : List (K × Value)) (no : List Addr) : Prop :=
  ps.length = items.size ∧ ∀ (j : Nat) (x : Value), items[j]? = some x → ∃ T k key v, x = .ref T ∧ T ∉ no ∧ h.IsTuple T #[key, v] ∧ knd.is k key = true ∧ ps[j]? = some (k, v)
theorem PairsAt.mono {h h' : Heap} {items : Array Value} {ps : List (K × Value)} {no : List Addr} (p : PairsAt knd h items ps no) (k : ∀ b o, b ∉ no → h.get? b = some o → h'.get? b = some o) : PairsAt knd h' items ps no :=
  ⟨p.1, fun j x e => by
    obtain ⟨T, k1, key, v, h1, h2, ⟨o, h3, h3'⟩, h4, h5⟩ := p.2 j x e
    exact ⟨T, k1, key, v, h1, h2, ⟨o, k T o h2 h3, h3'⟩, h4, h5⟩⟩
theorem update_loop {R : Result → Shared → Prop} {d it l : Addr} {items : Array Value} {ps : List (K × Value)} {res : Value} (hdi : d ≠ it) (hli : l ≠ it) (hld : l ≠ d) (hA : A.handled = none) :
    ∀ (n i : Nat) (s : Shared) (kvs : List (K × Value)), items.size - i = n → i ≤ items.size → s.heap.IsListIter it l i → s.heap.IsList l items → s.heap.DictOf knd d kvs → kvs.length + n ≤ sizeLine → PairsAt knd s.heap items ps [d, it] →
    (∀ h' tk, h'.DictOf knd d (merged kvs (ps.drop i)) → (∀ b o, b ≠ d → b ≠ it → s.heap.get? b = some o → h'.get? b = some o) → R (.ok (.ret res)) { s with heap := h', toks := tk }) →
    codeAny (model prog w) A (.builtin "dict.update.loop" ⟨[.ref d, .ref it, rawInt i, res], []⟩) R s := by
  intro n
  induction n with
  | zero =>
    intro i s kvs hn hi hit hl hd hz hp hR
    have e : i = items.size := by omega
    subst e
    refine codeAny_builtin entry_dul ?_
    rw [Around.under_plainId plain_dul _]
    show wpAny _ A.in1 (pyNext (.ref it) >>= _) _ _ s
    refine wpAny_bind (wpAny_pyNext_list_end (by exact hA) hit hl (Array.getElem?_eq_none (Nat.le_refl _)) fun h' hx => ?_)
    show wpAny _ _ (Builtin.Dict.addKeywords d [] >>= _) _ _ _
    refine wpAny_bind (wpAny_pure (wpAny_pure ?_))
    refine hR h' s.toks ?_ fun b o _ h2 e => hx b o h2 e
    rw [List.drop_of_length_le (Nat.le_of_eq hp.1)]
    exact hd.extBut hx hdi
  | succ n ih =>
    intro i s kvs hn hi hit hl hd hz hp hR
    have hlt : i < items.size := by omega
    obtain ⟨T, k, key, v, e1, e2, hT, hk, hv⟩ := hp.2 i items[i] (by simp [hlt])
    refine codeAny_builtin entry_dul ?_
    rw [Around.under_plainId plain_dul _]
    show wpAny _ A.in1 (pyNext (.ref it) >>= _) _ _ s
    refine wpAny_bind (wpAny_pyNext_list_item hit hl (x := items[i]) (by simp [hlt]) fun h1 hit1 hs1 => ?_)
    rw [e1]
    have hTd : T ≠ d := fun z => e2 (by simp [z])
    have hTi : T ≠ it := fun z => e2 (by simp [z])
    obtain ⟨oT, hoT, cT, nT, dT⟩ := hT
    have hoT1 : h1.get? T = some oT := (hs1.2 T hTi).trans hoT
    have tT : ({ s with heap := h1 } : Shared).TypeIs (.ref T) "tuple" := ⟨oT, hoT1, cT⟩
    show wpAny _ _ (holding [Value.ref T] _ >>= _) _ _ _
    refine wpAny_bind (wpAny_holding ?_)
    refine wpAny_bind (wpAny_tryCatch ?_)
    unfold Builtin.Dict.pairItems
    refine wpAny_bind (wpAny_typeOf tT ?_)
    rw [if_pos (by decide)]
    refine wpAny_bind (wpAny_seqItems hoT1 dT (wpAny_pure ?_))
    show wpAny _ _ (holding [key, v] (dictSet d key v)) _ _ _
    refine wpAny_holding ?_
    have hd1 : h1.DictOf knd d kvs := hd.sameBut hs1 hdi
    refine wpAny_dictSet_pairs (hsz := by omega) hk hd1 fun h2 hd2 hs2 => ?_
    refine wpAny_pure ⟨plainId_quiet plain_dul _, ?_⟩
    have kp : ∀ b o, b ≠ d → b ≠ it → s.heap.get? b = some o → h2.get? b = some o := fun b o hb1 hb2 e => (hs2.2 b hb1).trans ((hs1.2 b hb2).trans e)
    have hit2 : h2.IsListIter it l (i + 1) := let ⟨o, e, r⟩ := hit1; ⟨o, (hs2.2 it (Ne.symm hdi)).trans e, r⟩
    have hl2 : h2.IsList l items := let ⟨o, e, r⟩ := hl; ⟨o, kp l o hld hli e, r⟩
    have := ih (i + 1) { s with heap := h2, toks := s.toks + 1 } (stored kvs k v) (by omega) (by omega) hit2 hl2 hd2 (by have := stored_length_le kvs k v; omega) (hp.mono fun b o hb e => kp b o (fun z => hb (by simp [z])) (fun z => hb (by simp [z])) e) (fun h' tk hd' kp' => ?_)
    · exact this
    · refine hR h' tk ?_ fun b o h3 h4 e => kp' b o h3 h4 (kp b o h3 h4 e)
      have hdr : ps.drop i = (k, v) :: ps.drop (i + 1) := by
        obtain ⟨hj, ej⟩ := List.getElem?_eq_some_iff.mp hv
        rw [List.drop_eq_getElem_cons hj, ej]
      rw [hdr]
      exact hd'
theorem call_dict_pairs {l : Addr} {o : Obj} {items : Array Value} {n : Nat} {ps : List (K × Value)} {Q : Value → Shared → Prop} (ho : s.heap.get? l = some o) (hc : o.cls = .type "list") (hd : o.dict = none) (hdat : o.data = .seq items n)
    (hA : A.handled = none) (hp : PairsAt knd s.heap items ps []) (hz : items.size ≤ sizeLine)
    (h : ∀ h' tk, h'.DictOf knd s.heap.objs.size (merged [] ps) → (∀ b o, s.heap.get? b = some o → h'.get? b = some o) → Q (.ref s.heap.objs.size) { s with heap := h', toks := tk }) :
    wpAny (model prog w) A (call (.type "dict") [.ref l]) Q E s := by
  refine callType_codes (Q₁ := fun obj s₁ => obj = .ref s.heap.objs.size ∧ s₁ = { s with heap := s.heap.push { cls := .type "dict", data := .dict #[] } }) F.kt_called_dict (F.kt_typeCall_dict_1 _) F.entry_dict_init (kt_code_dict_new _ ⟨rfl, rfl⟩) ?_
  rintro obj s₁ ⟨rfl, rfl⟩
  have hnew : (s.heap.push { cls := .type "dict", data := .dict #[] }).DictOf knd s.heap.objs.size [] := Heap.DictOf.new s.heap
  have hlt := Heap.lt_size ho
  have ho' : (s.heap.push { cls := .type "dict", data := .dict #[] }).get? l = some o := Heap.get?_push_of_some _ ho
  refine ⟨hnew.typeIs, F.args_dict_init_2 _ _, ?_⟩
  unfold Builtin.«dict.__init__»
  refine wpAny_bind ?_
  unfold Builtin.Dict.selfAndRest
  refine wpAny_bind (wpAny_notOrdered_dict hnew.typeIs ?_)
  show wpAny _ _ (pure (s.heap.objs.size, [Value.ref l])) _ _ _
  refine wpAny_pure ?_
  show wpAny _ _ (Builtin.Dict.updateFrom "dict.__init__" s.heap.objs.size (.ref l) [] .none) _ _ _
  unfold Builtin.Dict.updateFrom
  refine wpAny_bind (wpAny_typeOf (T := "list") ⟨o, ho', hc⟩ ?_)
  rw [if_pos (by decide)]
  refine wpAny_bind (getAttr?_miss_list ho' hc hdat hd miss_keys (by decide) (by exact hA) fun h1 tk1 k1 => ?_)
  show wpAny _ _ (rule _ >>= _) _ _ _
  refine wpAny_bind (wpAny_rule ?_)
  have k0 : ∀ b q, s.heap.get? b = some q → h1.get? b = some q := fun b q e => k1 b q (Heap.get?_push_of_some _ e)
  have hl1 : h1.IsList l items := ⟨o, k0 l o ho, hc, n, hdat⟩
  refine wpAny_bind (wpAny_pyIter_list hl1 (wpAny_pure ⟨plainId_quiet plain_dul _, ?_⟩))
  have hd1 : h1.DictOf knd s.heap.objs.size [] := by
    obtain ⟨q, es, ep, e1, e2, e3⟩ := hnew
    exact ⟨q, es, ep, k1 _ _ e1, e2, e3⟩
  have hds : s.heap.objs.size < h1.objs.size := by
    obtain ⟨q, es, ep, e1, _⟩ := hd1
    exact Heap.lt_size e1
  have hl1s : l < h1.objs.size := Heap.lt_size (k0 l o ho)
  refine update_loop (knd := knd) (items := items) (ps := ps) (d := s.heap.objs.size) (it := h1.objs.size) (l := l) (Nat.ne_of_lt hds) (Nat.ne_of_lt hl1s) (Nat.ne_of_lt hlt) (by exact hA) items.size 0 _ [] (by omega) (Nat.zero_le _) ⟨_, Heap.get?_push_size _ rfl, rfl, rfl⟩ (hl1.push _) (hd1.push _) (by simpa using hz) ⟨hp.1, fun j x e => ?_⟩ fun h' tk hd' kp => ?_
  · obtain ⟨T, k, key, v, e1, _, ⟨oT, e2, e3⟩, e4, e5⟩ := hp.2 j x e
    refine ⟨T, k, key, v, e1, ?_, ⟨oT, Heap.get?_push_of_some _ (k0 _ _ e2), e3⟩, e4, e5⟩
    have h1 := Heap.lt_size e2
    have h2 := Heap.lt_size (k0 _ _ e2)
    simp only [List.mem_cons, List.not_mem_nil, or_false, not_or]
    exact ⟨Nat.ne_of_lt h1, Nat.ne_of_lt h2⟩
  · exact ⟨rfl, h h' tk hd' fun b q e => kp b q (Nat.ne_of_lt (Heap.lt_size e)) (Nat.ne_of_lt (Heap.lt_size (k0 _ _ e))) (Heap.get?_push_of_some _ (k0 b q e))⟩
end
end L2
namespace L2
open PySem PySem.Spec PyProof.Rows
section
variable {X : Cx} {pins : List (Addr × Obj)} {σ : St} {H : Hp} {s : Shared}
theorem Inv.turnedL {t' : Nat} {h' : Heap} {ch : List Addr} (I : Inv X pins σ H s) (k : ∀ b o, b ∉ ch → s.heap.get? b = some o → h'.get? b = some o) (hf : ∀ b ∈ ch, FpOk X pins H b) : Inv X pins σ H { s with heap := h', toks := t' } := by
  have nit : ∀ b u, H b = some u → b ∉ ch := fun b u e z => by rw [(hf b z).1] at e; cases e
  refine I.step (g' := s.gens) (d' := s.drawn) (ch := ch) (fun b hb => ⟨(hf b hb).2.2.2.1, (hf b hb).2.1, (hf b hb).2.2.2.2.1, (hf b hb).2.2.2.2.2⟩) (fun b o _ _ hc e _ => k b o hc e) (fun b o _ _ hc e _ => ⟨o.slots, k b o hc e⟩) (fun _ _ _ _ n => n)
    (fun b o hc e => ⟨o, k b o hc e⟩) (fun _ _ e => e) (fun _ _ _ e => e) (fun b ps e => ⟨#[], by rw [e]; simp⟩) (fun m hm => ?_) (fun b u e => ?_) I.bare
  · obtain ⟨o, es, ep, ho, r⟩ := hm
    exact ⟨o, es, ep, k _ o (fun z => (hf _ z).2.1 rfl) ho, r⟩
  · refine (I.hok b u e).stay (fun c v hc q => k c v ?_ q) (fun _ q => q) fun _ _ q => q
    rcases hc with z | z
    · rw [z]; exact nit b u e
    · exact nit c _ z
end
def Ite (K : PySem.W.Frag) (a : Addr) : It :=
  ⟨fun i H => ∃ xs x, SqL K H a xs ∧ xs[i]? = some x, fun i H v H' => ∃ p y, v = .ref p ∧ H p = none ∧ Same H H' ∧ H' p = some (.tup [.int (i : Nat), y]) ∧ ∀ xs, SqL K H a xs → xs[i]? = some y, fun i H => ∃ xs, SqL K H a xs ∧ xs.length ≤ i⟩
theorem turn_enum {P : Program} {w : World} {K : PySem.W.Frag} {elts : List Expr} {x1 : Nat} {pos : Pos} (a e it : Addr) (hne : e ≠ it) :
    Turn P w K (.Tuple elts x1 pos) (Ite K a) [e, it] e (fun i h => (∃ old, IsEnum h e it (i : Nat) old) ∧ h.IsListIter it a i) where
  mem := by simp
  obj := fun i h st b hb => by
    obtain ⟨⟨old, he⟩, o, e2, c, d⟩ := st
    rcases (by simpa using hb : b = e ∨ b = it) with rfl | rfl
    · exact ⟨_, he, fun v z => by cases z⟩
    · exact ⟨o, e2, fun v z => by rw [d] at z; cases z⟩
  keep := fun i h h' st k => ⟨let ⟨old, he⟩ := st.1; ⟨old, k e (by simp) _ he⟩, st.2.at fun o x => k it (by simp) o x⟩
  item := by
    intro X hP hw hK hc i pins s σ H E I hf st hg
    subst hP hw hK
    obtain ⟨xs, x, hq, hx⟩ := hg
    obtain ⟨its, rv, p, hz⟩ := I.list hq
    obtain ⟨u, hu, ru⟩ := rv.get hx
    obtain ⟨⟨old, he⟩, hit⟩ := st
    have helt : e < s.heap.objs.size := Heap.lt_size he
    have hilt : it < s.heap.objs.size := by obtain ⟨_, q, _⟩ := hit; exact Heap.lt_size q
    refine wpAny_pyNext_enum_item he hit p.isList (x := u) (by simpa using hu) hne fun h' ho hit' hT hsz hk => ?_
    have fr : H s.heap.objs.size = none := I.hok.fresh (Nat.le_refl _)
    have I1 : Inv X pins σ H { s with heap := h', toks := s.toks + 1 } := I.turnedL (ch := [e, it]) (fun b o hb q => hk b o (fun z => hb (by simp [z])) (fun z => hb (by simp [z])) q) hf
    have I2 : Inv X pins σ (upd H s.heap.objs.size (.tup [.int (i : Nat), x])) { s with heap := h', toks := s.toks + 1 } := I1.adopt (o := .tup [.int (i : Nat), x]) fr I.sz (Nat.ne_of_gt I.lt) (fun y c ec z => by
        obtain ⟨v, q⟩ := I.cell y c ec
        exact absurd q.lt (by rw [z]; exact Nat.lt_irrefl _)) (fun q hq z => absurd (Heap.lt_size (I.pin q hq).1) (by rw [z]; exact Nat.lt_irrefl _))
      ⟨le_line (by simp), [.int (i : Nat) s.toks, u], .cons ⟨_, rfl⟩ (.cons ru .nil), ⟨_, hT, rfl, _, rfl⟩⟩
    have ne : ∀ b ∈ [e, it], b ≠ s.heap.objs.size := fun b hb => by
      rcases (by simpa using hb : b = e ∨ b = it) with rfl | rfl
      · exact Nat.ne_of_lt helt
      · exact Nat.ne_of_lt hilt
    have hf2 : ∀ b ∈ [e, it], FpOk X pins (upd H s.heap.objs.size (.tup [.int (i : Nat), x])) b := fun b hb => ⟨by rw [upd_ne (ne b hb)]; exact (hf b hb).1, (hf b hb).2⟩
    refine ⟨_, rfl, wpAny_letOwnedTupleGo_enum ho fun h2 he2 hs2 => ⟨.ref s.heap.objs.size, _, I2.turnedL (t' := s.toks + 1) (ch := [e]) (fun b o hb q => (hs2.2 b (fun z => hb (by simp [z]))).trans q) (fun b hb => hf2 b (by simp at hb; simp [hb])), rfl, ⟨s.heap.objs.size, x, rfl, fr, Same.new fr, upd_same, fun ys hy => by rw [I.list_inj hy hq]; exact hx⟩, ⟨⟨_, by simpa using he2⟩, hit'.at fun o q => (hs2.2 it (Ne.symm hne)).trans q⟩, fun b hb => (hf2 b hb).1⟩⟩
  done := by
    intro X hP hw hK hc i pins s σ H E I hf st hg
    subst hP hw hK
    obtain ⟨xs, hq, hx⟩ := hg
    obtain ⟨its, rv, p, hz⟩ := I.list hq
    obtain ⟨⟨old, he⟩, hit⟩ := st
    have hl := rv.length
    exact wpAny_pyNext_enum_end (I.ok.hd hc) he hit p.isList (by simp; omega) fun h' eb => ⟨rfl, I.turnedL (t' := s.toks) (ch := [it]) (fun b o hb q => eb b o (fun z => hb (by simp [z])) q) (fun b hb => hf b (by simp at hb; simp [hb]))⟩
  self := fun A i s Q E st h => let ⟨old, he⟩ := st.1; wpAny_pyIter_enum he h
section
variable {X : Cx} {elts : List Expr} {x1 : Nat} {tpos : Pos}
def iEnum (K : PySem.W.Frag) (ta : TA) : TI := fun σ H R => ta σ H fun vs H1 => ∃ a, vs = [.ref a] ∧ (∃ xs, SqL K H1 a xs) ∧ R (Ite K a) H1
theorem pi_enum (K : PySem.W.Frag) {a : Expr} {ta : TA} {p pos : Pos} (hg : Gl X "enumerate") (hm : X.mg "enumerate" = none) (ha : PA X [a] ta) (hs : starEach [a] X.env = [(false, eval a X.env)] := by rfl) (hK : X.K = K := by rfl) : PI X (.Tuple elts x1 tpos) (.Call (.Name "enumerate" p) [a] [] pos) (iEnum K ta) := by
  subst hK
  intro pins s σ H R I h
  refine Call_ (ld_blt I hg hm boot_enumerate (PyProof.Rows.callWith_type1 (thn (ha pos pins s σ H _ I h) fun us s1 ⟨vs, H1, I1, r1, q1⟩ => ?_) hs rfl))
  obtain ⟨l, e, ⟨xs, hq⟩, q⟩ := q1
  subst e
  obtain ⟨u, rfl, ru⟩ := vals1 r1
  cases ru
  obtain ⟨its, rv, pl, hz⟩ := I1.list hq
  refine call_enumerate_list pl.isList fun h' he hit hsz hk => ?_
  refine wpAny_pyIter_enum he ?_
  refine ⟨s1.heap.objs.size + 1, [s1.heap.objs.size + 1, s1.heap.objs.size], _, _, H1, rfl, I1.kept (t' := s1.toks) hk, turn_enum l _ _ (Nat.succ_ne_self _), ⟨⟨_, he⟩, hit⟩, fun b hb => ?_, q⟩
  have hb' : s1.heap.objs.size ≤ b := by
    rcases (by simpa using hb : b = s1.heap.objs.size + 1 ∨ b = s1.heap.objs.size) with rfl | rfl <;> omega
  exact I1.fpOk hb' (I1.hok.fresh hb')
theorem i_enum {K : PySem.W.Frag} {σ : St} {H : Hp} {R : It → Hp → Prop} {ts : TA} (h : ts σ H fun vs H1 => ∃ a, vs = [.ref a] ∧ (∃ xs, SqL K H1 a xs) ∧ R (Ite K a) H1) : iEnum K ts σ H R := h
theorem i_lref {a : Addr} {p : Addr → Prop} (h : p a) : ∃ b, [V.ref a] = [V.ref b] ∧ p b := ⟨a, rfl, h⟩
theorem cc_enum {K : PySem.W.Frag} {a : Addr} {xs : List V} {te : TE} {tt : TT} {caps : List Nat} {σ : St} {H : Hp} {Q : VK} (hz : xs.length ≤ sizeLine) (Pv : Nat → List V → Hp → Prop) (h0 : Pv 0 [] H) (hl : ∀ i acc H, Pv i acc H → acc.length ≤ i ∧ SqL K H a xs)
    (hs : ∀ i x acc H H2, xs[i]? = some x → Pv i acc H → Same H H2 → tt (some (.int (i : Nat)) :: some x :: capV caps σ) H2 fun b H4 => if b = true then te (some (.int (i : Nat)) :: some x :: capV caps σ) H4 fun y H5 => Pv (i + 1) (acc ++ [y]) H5 else Pv (i + 1) acc H4)
    (hd : ∀ acc H, Pv xs.length acc H → New H (.lst acc) Q) : CompEnd (Ite K a) (gTup K 2 (gCons (gName 0) (gCons (gName 1) gNil))) tt te 2 caps σ H Q := by
  refine ⟨fun i m acc σ' H => m = xs.length - i ∧ i ≤ xs.length ∧ (∃ u v, σ' = u :: v :: capV caps σ) ∧ Pv i acc H, ⟨xs.length, by simp, Nat.zero_le _, ⟨none, none, rfl⟩, h0⟩, ?_⟩
  rintro i m acc σ' H' ⟨rfl, hi, ⟨u0, v0, rfl⟩, p⟩
  obtain ⟨hl1, hq⟩ := hl i acc H' p
  by_cases hlt : i < xs.length
  · refine .inr ⟨⟨xs, xs[i], hq, by simp [hlt]⟩, by omega, fun ac σ2 H2 => (∃ u v, σ2 = u :: v :: capV caps σ) ∧ Pv (i + 1) ac H2, fun ac σ2 H2 ⟨e, p'⟩ => ⟨xs.length - (i + 1), by omega, rfl, hlt, e, p'⟩, fun x H2 y => ?_⟩
    obtain ⟨q, z, rfl, hn, sm, hT, hy⟩ := y
    have hst := hs i z acc H' H2 (hy xs hq) p sm
    have eN : ∀ ac H5, ((∃ u1 v1, some (V.int (i : Nat)) :: some z :: capV caps σ = u1 :: v1 :: capV caps σ) ∧ Pv (i + 1) ac H5) = Pv (i + 1) ac H5 := fun ac H5 => propext ⟨And.right, fun p => ⟨⟨_, _, rfl⟩, p⟩⟩
    refine ⟨q, [.int (i : Nat), z], rfl, SqT.of hT, rfl, .int (i : Nat), [z], rfl, z, [], rfl, rfl, ?_⟩
    show tt (some (.int (i : Nat)) :: some z :: capV caps σ) _ fun b H4 => if b = true then te (some (.int (i : Nat)) :: some z :: capV caps σ) H4 fun y H5 => ((∃ u1 v1, some (V.int (i : Nat)) :: some z :: capV caps σ = u1 :: v1 :: capV caps σ) ∧ Pv (i + 1) (acc ++ [y]) H5) else ((∃ u1 v1, some (V.int (i : Nat)) :: some z :: capV caps σ = u1 :: v1 :: capV caps σ) ∧ Pv (i + 1) acc H4)
    simp only [eN]
    exact hst
  · have e : i = xs.length := by omega
    subst e
    exact .inl ⟨⟨xs, hq, Nat.le_refl _⟩, New.to (hd acc H' p)⟩
end
inductive PrK (H : Hp) : List V → List (Key × V) → Prop
  | nil : PrK H [] []
  | cons {p : Addr} {k : Key} {v : V} {vs : List V} {kvs : List (Key × V)} : H p = some (.tup [kV k, v]) → PrK H vs kvs → PrK H (.ref p :: vs) ((k, v) :: kvs)
theorem PrK.mono {H H' : Hp} (t : Tups H H') {vs : List V} {kvs : List (Key × V)} (h : PrK H vs kvs) : PrK H' vs kvs := by
  induction h with
  | nil => exact .nil
  | cons e _ ih => exact .cons (t _ _ e) ih
theorem PrK.snoc {H : Hp} {vs : List V} {kvs : List (Key × V)} {p : Addr} {k : Key} {v : V} (h : PrK H vs kvs) (e : H p = some (.tup [kV k, v])) : PrK H (vs ++ [.ref p]) (kvs ++ [(k, v)]) := by
  induction h with
  | nil => exact .cons e .nil
  | cons e' _ ih => exact .cons e' ih
def rDictP (K : PySem.W.Frag) : List V → Hp → VK → Prop := fun xs H Q => ∃ l vs kvs, xs = [.ref l] ∧ SqL K H l vs ∧ PrK H vs kvs ∧ New H (.dK (mergeK [] kvs)) Q
section
variable {X : Cx}
theorem PrK.at_ {pins : List (Addr × Obj)} {σ : St} {H : Hp} {s : Shared} (I : Inv X pins σ H s) : ∀ {vs : List V} {kvs : List (Key × V)} {us : List Value}, PrK H vs kvs → Vals vs us →
    ∃ ps : List (Key × Value), KV kvs ps ∧ ps.length = us.length ∧ ∀ (j : Nat) (x : Value), us[j]? = some x → ∃ T k key v, x = .ref T ∧ T ∉ ([] : List Addr) ∧ s.heap.IsTuple T #[key, v] ∧ (mixKind X.prog X.w).is k key = true ∧ ps[j]? = some (k, v)
  | _, _, _, .nil, r => by
    cases r
    exact ⟨[], .nil, rfl, fun j x e => by simp at e⟩
  | _, _, _, .cons (p := p) (k := k) (v := v) e h, r => by
    cases r with
    | cons r1 r2 =>
      cases r1
      obtain ⟨ps, h1, h2, h3⟩ := PrK.at_ I h r2
      obtain ⟨its, q1, q2, _⟩ := I.tuple (SqT.of e)
      obtain ⟨u1, u2, rfl, ra, rb⟩ := vals2 q1
      refine ⟨(k, u2) :: ps, .cons ⟨rfl, rb⟩ h1, by simp [h2], fun j x ej => ?_⟩
      cases j with
      | zero =>
        simp at ej
        subst ej
        exact ⟨p, k, u1, u2, rfl, by simp, q2, kV_is ra, rfl⟩
      | succ j => exact h3 j x (by simpa using ej)
theorem kcl_dict (K : PySem.W.Frag) (hh : X.calm = true := by rfl) (hK : X.K = K := by rfl) : CallR X (.type "dict") (rDictP K) := by
  subst hK
  intro pins s σ H xs us Q I r h
  obtain ⟨l, vs, kvs, rfl, hq, hp, q⟩ := h
  obtain ⟨u, rfl, ru⟩ := vals1 r
  cases ru
  obtain ⟨its, rv, ⟨o, n, e1, e2, e3, e4⟩, hz⟩ := I.list hq
  obtain ⟨ps, k1, k2, k3⟩ := PrK.at_ I hp rv
  have hl := rv.length
  refine call_dict_pairs (knd := mixKind X.prog X.w) e1 e2 e3 e4 (I.ok.hd hh) ⟨by simpa using k2, fun j x e => k3 j x (by simpa using e)⟩ (by simpa using hl ▸ hz) fun h' tk hd kk => ?_
  have hz2 : (mergeK [] kvs).length ≤ sizeLine := by
    have h1 := length_mergeK kvs []
    have h2 : kvs.length = ps.length := k1.length
    simp only [List.length_nil] at h1
    omega
  refine ⟨.ref s.heap.objs.size, upd H s.heap.objs.size (.dK (mergeK [] kvs)), I.laid (t' := tk) kk (Nat.le_refl _) (dk_new hz2 (beq_eq_false_iff_ne.mpr (Ne.symm (Nat.ne_of_lt I.big))) (k1.merge .nil) hd), rfl, New.to q _ (I.hok.fresh (Nat.le_refl _))⟩
theorem i_dictP {K : PySem.W.Frag} {H : Hp} {Q : VK} {l : Addr} {vs : List V} {kvs : List (Key × V)} (h1 : SqL K H l vs) (h2 : PrK H vs kvs) (h : New H (.dK (mergeK [] kvs)) Q) : rDictP K [.ref l] H Q := ⟨l, vs, kvs, rfl, h1, h2, h⟩
theorem i_dgetI {H : Hp} {Q : VK} {a : Addr} {kvs : List (Key × V)} {i : Int} {v : V} (e : H a = some (.dK kvs)) (hv : valV kvs (Sum.inl i) = some v) (h : Q v H) : ∃ b u, V.ref a = .ref b ∧ DGet H b (.int i) (some u) ∧ Q u H := ⟨a, v, rfl, .inl ⟨kvs, Sum.inl i, .inl e, rfl, hv.symm⟩, h⟩
def rMin2 : List V → Hp → VK → Prop := fun xs H Q => ∃ a b : Int, xs = [.int a, .int b] ∧ Q (.int (min a b)) H
theorem kcall_min2 (hh : X.calm = true := by rfl) : CallR X (.builtin "min") rMin2 := by
  intro pins s σ H xs us Q I r h
  obtain ⟨a, b, rfl, q⟩ := h
  obtain ⟨u, v, rfl, ⟨t1, rfl⟩, ⟨t2, rfl⟩⟩ := vals2 r
  refine min_two_ints (I.ok.hd hh) fun h' tk hk => ?_
  have I1 : Inv X pins σ H { s with heap := h', toks := tk } := I.kept hk
  by_cases c : b < a
  · rw [if_pos c]
    exact ⟨.int b, H, I1, ⟨_, rfl⟩, by rw [show min a b = b by omega] at q; exact q⟩
  · rw [if_neg c]
    exact ⟨.int a, H, I1, ⟨_, rfl⟩, by rw [show min a b = a by omega] at q; exact q⟩
theorem i_min2 {H : Hp} {Q : VK} {a b : Int} (h : Q (.int (min a b)) H) : rMin2 [.int a, .int b] H Q := ⟨a, b, rfl, h⟩
def rSlTN (K : PySem.W.Frag) : V → Option Int → Option Int → Hp → VK → Prop := fun x lo hi H Q => ∃ a xs, x = .ref a ∧ SqT K H a xs ∧ ¬ (HT.sIx xs.length 0 lo = 0 ∧ HT.sIx xs.length xs.length hi = xs.length) ∧ New H (.tup (cutV xs lo hi)) Q
theorem ksl_tup (K : PySem.W.Frag) (hK : X.K = K := by rfl) : SlR X (rSlTN K) := by
  subst hK
  intro pins s σ H x v vl vu lo hi sl Q I rx hs pl pu h
  obtain ⟨a, xs, e, h1, h2, h3⟩ := h
  exact sl_tup pins s σ H x v vl vu lo hi sl Q I rx hs pl pu ⟨a, xs, e, h1, h2, New.to h3⟩
theorem cut_init (xs : List V) (y : V) : cutV (xs ++ [y]) none (some (-1)) = xs ∧ HT.sIx (xs ++ [y]).length (xs ++ [y]).length (some (-1)) = xs.length := by
  have e : HT.sIx (xs ++ [y]).length (xs ++ [y]).length (some (-1)) = xs.length := by
    unfold HT.sIx
    simp only []
    rw [if_pos (by decide), List.length_append]
    simp only [List.length_cons, List.length_nil]
    omega
  refine ⟨?_, e⟩
  unfold cutV
  rw [e, HT.sIx_none, List.drop_zero, Nat.sub_zero, List.take_left']
  rfl
theorem i_slInit {K : PySem.W.Frag} {H : Hp} {Q : VK} {a : Addr} {xs : List V} {y : V} (h1 : SqT K H a (xs ++ [y])) (h : New H (.tup xs) Q) : rSlTN K (.ref a) none (some (-1)) H Q := by
  refine ⟨a, xs ++ [y], rfl, h1, fun z => ?_, by rw [(cut_init xs y).1]; exact h⟩
  have := (cut_init xs y).2
  rw [z.2, List.length_append] at this
  simp at this
def rCatTN (K : PySem.W.Frag) : R2 := fun x y H Q => ∃ a b xs ys, x = .ref a ∧ y = .ref b ∧ SqT K H a xs ∧ SqT K H b ys ∧ xs ≠ [] ∧ ys ≠ [] ∧ xs.length + ys.length ≤ sizeLine ∧ New H (.tup (xs ++ ys)) Q
theorem kop_catT (K : PySem.W.Frag) (hK : X.K = K := by rfl) : OpR X (binaryOp .Add) (rCatTN K) := by
  subst hK
  intro pins s σ H x y v u Q I rx ry h
  obtain ⟨a, b, xs, ys, e1, e2, h1, h2, h3, h4, h5, h6⟩ := h
  exact op_catT pins s σ H x y v u Q I rx ry ⟨a, b, xs, ys, e1, e2, h1, h2, h3, h5, fun z => absurd z h4, fun _ => New.to h6⟩
theorem i_catT {K : PySem.W.Frag} {H : Hp} {Q : VK} {a b : Addr} {xs ys : List V} (h1 : SqT K H a xs) (h2 : SqT K H b ys) (h3 : xs ≠ []) (h4 : ys ≠ []) (h5 : xs.length + ys.length ≤ sizeLine) (h : New H (.tup (xs ++ ys)) Q) : rCatTN K (.ref a) (.ref b) H Q := ⟨a, b, xs, ys, rfl, rfl, h1, h2, h3, h4, h5, h⟩
def rIsN : R2 := fun x y H Q => y = .non ∧ Q (.bl (decide (x = .non))) H
def rNotN : R2 := fun x y H Q => y = .non ∧ Q (.bl (!decide (x = .non))) H
theorem kop_isN : OpR X (compareOp .Is) rIsN := op_isN
theorem kop_notN : OpR X (compareOp .IsNot) rNotN := op_notN
theorem i_isN {x : V} {H : Hp} {Q : VK} (h : Q (.bl (decide (x = .non))) H) : rIsN x .non H Q := ⟨rfl, h⟩
theorem i_notN {x : V} {H : Hp} {Q : VK} (h : Q (.bl (!decide (x = .non))) H) : rNotN x .non H Q := ⟨rfl, h⟩
theorem inV_ints (x : Int) : ∀ ns : List Int, inV (.int x) (ns.map V.int) = decide (x ∈ ns)
  | [] => rfl
  | n :: ns => by
    have h := inV_ints x ns
    unfold inV at h ⊢
    rw [List.map_cons, List.any_cons, h]
    show ((n == x) || _) = _
    rw [Bool.eq_iff_iff]
    simp
    constructor
    · rintro (rfl | h)
      · exact .inl rfl
      · exact .inr h
    · rintro (rfl | h)
      · exact .inl rfl
      · exact .inr h
theorem flat_ints (ns : List Int) : (ns.map V.int).all flatV = true := by simp [flatV]
theorem i_inI {K : PySem.W.Frag} {H : Hp} {Q : VK} {p : Addr} {x : Int} {ns : List Int} (h1 : SqL K H p (ns.map V.int)) (h : Q (.bl (decide (x ∈ ns))) H) : rIn K false (.int x) (.ref p) H Q := ⟨p, _, rfl, .inl h1, rfl, flat_ints ns, by rw [inV_ints]; exact h⟩
theorem i_notInI {K : PySem.W.Frag} {H : Hp} {Q : VK} {p : Addr} {x : Int} {ns : List Int} (h1 : SqL K H p (ns.map V.int)) (h : Q (.bl (!decide (x ∈ ns))) H) : rIn K true (.int x) (.ref p) H Q := ⟨p, _, rfl, .inl h1, rfl, flat_ints ns, by rw [inV_ints]; exact h⟩
def rIndexI (K : PySem.W.Frag) : V → List V → Hp → VK → Prop := fun x vs H Q => ∃ (l : Addr) (ys : List Int) (y : Int) (j : Nat), x = .ref l ∧ vs = [.int y] ∧ SqL K H l (ys.map V.int) ∧ ys[j]? = some y ∧ (∀ m, m < j → ys[m]? ≠ some y) ∧ Q (.int (j : Nat)) H
theorem intsv_at : ∀ {ys : List Int} {us : List Value}, Vals (ys.map V.int) us → ∀ (i : Nat) (h : i < us.length), ∃ y t, ys[i]? = some y ∧ us[i] = .int y t
  | [], _, r, i, h => by cases r; simp at h
  | y :: ys, _, r, i, h => by
    cases r with
    | cons r1 r2 =>
      cases i with
      | zero =>
        obtain ⟨t, rfl⟩ := r1
        exact ⟨y, t, rfl, rfl⟩
      | succ i => exact intsv_at (ys := ys) r2 i (by simpa using h)
theorem kmt_indexI (K : PySem.W.Frag) (hK : X.K = K := by rfl) : MtR X "list.index" (rIndexI K) := by
  subst hK
  intro pins s σ H x vs v us Q I rx rv h
  obtain ⟨l, ys, y, j, rfl, rfl, hq, hj, hno, q⟩ := h
  cases rx
  obtain ⟨u, rfl, ru⟩ := rv.one
  obtain ⟨its, r, pl, hz⟩ := I.list hq
  have hlen : ys.length = its.length := by have := r.length; simpa using this
  have hjl : j < its.length := by have := (List.getElem?_eq_some_iff.mp hj).1; omega
  obtain ⟨o, n, e, hc, hd, hs⟩ := pl
  obtain ⟨cls, dd, data, sl⟩ := o
  simp only at hc hd hs
  subst hc hs
  have fy : flatV (.int y) = true := rfl
  have fs : (ys.map V.int).all flatV = true := flat_ints ys
  have at_ : ∀ (m : Nat) (hm : m < its.toArray.size), ∃ z, ys[m]? = some z ∧ eqU (.int y) its.toArray[m] = (z == y) := fun m hm => by
    obtain ⟨z, t, ez, eu⟩ := intsv_at r m (by simpa using hm)
    refine ⟨z, ez, ?_⟩
    have : its.toArray[m] = .int z t := by simpa using eu
    rw [this]
    rfl
  have hl16 : its.length ≤ sizeLine := by have := r.length; omega
  have hsm : ((j : Nat) : Int) < 2 ^ 63 - 1 := by
    have : (sizeLine : Nat) + 1 < 2 ^ 63 := by rw [sizeLine_eq]; decide
    omega
  refine call_meets F.slot_list_index ⟨_, e, rfl⟩ F.entry_list_index (F.args_list_index_2 _ _) (SeqAt.list_indexAt l its.toArray n dd sl u (eqU (.int y)) j (by simpa using hjl) hsm ?_ ?_) ⟨e, ?_, ⟨.int j, H, I.tok _, ⟨_, rfl⟩, q⟩⟩
  · obtain ⟨z, ez, eq⟩ := at_ j (by simpa using hjl)
    rw [eq]
    rw [hj] at ez
    cases ez
    simp
  · intro m hm hmj
    obtain ⟨z, ez, eq⟩ := at_ m hm
    rw [eq]
    have : z ≠ y := fun e => hno m hmj (by rw [ez, e])
    simpa using this
  · intro w hw
    exact mem_eqAt ru fy r fs w (by simpa using hw)
theorem i_indexI {K : PySem.W.Frag} {H : Hp} {Q : VK} {l : Addr} {ys : List Int} {y : Int} {j : Nat} (h1 : SqL K H l (ys.map V.int)) (h2 : ys[j]? = some y) (h3 : ∀ m, m < j → ys[m]? ≠ some y) (h : Q (.int (j : Nat)) H) : rIndexI K (.ref l) [.int y] H Q := ⟨l, ys, y, j, rfl, rfl, h1, h2, h3, h⟩
theorem i_clear {H : Hp} {Q : VK} {l : Addr} {xs : List V} (h1 : H l = some (.lst xs)) (h : Q .non (upd H l (.lst []))) : rClear (.ref l) [] H Q := ⟨l, xs, rfl, rfl, h1, h⟩
theorem i_isiT {K : PySem.W.Frag} {H : Hp} {Q : VK} {a : Addr} {xs : List V} (e : H a = some (.tup xs)) (h : Q (.bl true) H) : rIsi K [V.ref a, V.ty "tuple"] H Q := ⟨_, _, _, true, rfl, .tup e, rfl, h⟩
theorem i_gsub {to ti : TE} {t : TSet} {v : V} {σ : St} {H : Hp} {Q : St → Hp → Prop} (h : to σ H fun o H1 => ti σ H1 fun i H2 => t o i v H2 fun H3 => Q σ H3) : gSub to ti t v σ H Q := h
theorem i_setL {H : Hp} {Q : Hp → Prop} {p : Addr} {xs : List V} {k : Int} {j : Nat} {v : V} (h1 : H p = some (.lst xs)) (h2 : ixN xs.length k = some j) (h : Q (upd H p (.lst (xs.set j v)))) : rSetL (.ref p) (.int k) v H Q := ⟨p, xs, k, j, rfl, rfl, h1, h2, h⟩
def rNeU : R2 := fun x y H Q => ∃ t fs gs, (Tr.tup t).At H x fs ∧ (Tr.tup t).At H y gs ∧ Tr.hs t ≤ 60 ∧ Q (.bl false) H
theorem kop_neU (hu : X.A.units + 64 < cLine) : OpR X (compareOp .NotEq) rNeU := by
  intro pins s σ H x y v u Q I rx ry h
  obtain ⟨t, fs, gs, h1, h2, hh, q⟩ := h
  simp only [Tr.At] at h1 h2
  obtain ⟨a, vs, rfl, e1, c1⟩ := h1
  obtain ⟨b, ws, rfl, e2, c2⟩ := h2
  cases rx
  cases ry
  obtain ⟨is1, q1, p1, _⟩ := I.tuple (SqT.of e1)
  obtain ⟨is2, q2, p2, _⟩ := I.tuple (SqT.of e2)
  have hl : is1.length = is2.length := by rw [← q1.length, ← q2.length, c1.len, c2.len]
  have := SeqAt.RcNeAt.tuples (A := X.A) (s := s) (e := fun _ => true) p1 p2 (by omega) (fun j h1 h2 => by
    have := Tr.eqAts I (A := X.A.in1) c1 c2 q1 q2 (by rw [in1_units]; omega) j (by simpa using h1) (by simpa using h2)
    simpa using this)
  refine this X.prog X.w X.xe (EP X pins σ Q) ⟨.bl false, H, I, ?_, q⟩
  rw [show ((List.range (min is1.toArray.size is2.toArray.size)).all (fun _ => true) && is1.toArray.size == is2.toArray.size) = true by simp [hl]]
  rfl
theorem i_neU {H : Hp} {Q : VK} {x y : V} {t : List Tr} {fs gs : List Addr} (h1 : (Tr.tup t).At H x fs) (h2 : (Tr.tup t).At H y gs) (hh : Tr.hs t ≤ 60) (h : Q (.bl false) H) : rNeU x y H Q := ⟨t, fs, gs, h1, h2, hh, h⟩
def tSeqC (t u : TS) : TS := fun D σ H => ∃ R : St → Hp → Prop, t { D with nx := R } σ H ∧ ∀ σ' H', R σ' H' → u D σ' H'
theorem pss_consC {st : Stmt} {rest : List Stmt} {t u : TS} (h1 : PS X st t) (h2 : PSs X rest u) : PSs X (st :: rest) (tSeqC t u) := by
  intro pins s σ H D I h
  obtain ⟨R, ha, hb⟩ := h
  refine wpAny_execs_cons (thn (h1 pins s σ H _ I ha) fun f s1 q => ?_)
  cases f with
  | next => obtain ⟨σ1, H1, I1, q1⟩ := q; exact h2 pins s1 σ1 H1 D I1 (hb σ1 H1 q1)
  | brk => exact q
  | cont => exact q
  | ret v => exact q
theorem i_seqC {t u : TS} {nn bb cc : St → Hp → Prop} {rr : VK} {σ : St} {H : Hp} (R : St → Hp → Prop) (h1 : t ⟨R, rr, bb, cc⟩ σ H) (h2 : ∀ σ' H', R σ' H' → u ⟨nn, rr, bb, cc⟩ σ' H') : tSeqC t u ⟨nn, rr, bb, cc⟩ σ H := ⟨R, h1, h2⟩
def tPure (t : TT) : TT := t
theorem pt_pure {e : Expr} {t : TT} (h : PT X e t) : PT X e (tPure t) := h
theorem i_pure {t : TT} {σ : St} {H : Hp} {QT : Bool → Hp → Prop} (c : Prop) [Decidable c] (h : ∀ R : Bool → Hp → Prop, R (decide c) H → t σ H R) (h2 : QT (decide c) H) : tPure t σ H QT := h QT h2
theorem i_unpure {t : TT} {σ : St} {H : Hp} {QT : Bool → Hp → Prop} (h : t σ H QT) : tPure t σ H QT := h
theorem rT {R : Bool → Hp → Prop} {H : Hp} {c : Prop} [Decidable c] (h : R (decide c) H) (hc : c) : R true H := by rw [decide_eq_true hc] at h; exact h
theorem rF {R : Bool → Hp → Prop} {H : Hp} {c : Prop} [Decidable c] (h : R (decide c) H) (hc : ¬ c) : R false H := by rw [decide_eq_false hc] at h; exact h
theorem i_while {c : TT} {tb : TS} {nn bb cc : St → Hp → Prop} {rr : VK} {σ : St} {H : Hp} (W : Nat → St → Hp → Prop) (m : Nat) (h0 : W m σ H)
    (hs : ∀ m σ H, W m σ H → c σ H fun b H1 => if b = true then ∃ N : St → Hp → Prop, (∀ σ' H', N σ' H' → ∃ m', m' < m ∧ W m' σ' H') ∧ tb ⟨N, rr, nn, N⟩ σ H1 else nn σ H1) : tWhile c tb ⟨nn, rr, bb, cc⟩ σ H := ⟨W, ⟨m, h0⟩, hs⟩
end
end L2
namespace L2
open PySem
inductive Nd where
  | say (w : Str) (n : Nat)
  | hand (l : Int) (w : Str) (n : Nat)
  | put (b : Str) (e : Ex) (n : Nat)
  | test (c : Cd) (m n : Nat)
  | wait (l : Int) (bs : List (List Pt × Nat)) (n : Nat)
  | call (m n : Nat)
  | back
  | stop
def brT (b : List Pt × Nat) : Tr := .tup [.tup (b.1.map Pt.tr), .int (b.2 : Nat)]
def Nd.its : Nd → List Tr
  | .say w n => [.str "say", .str w, .int (n : Nat)]
  | .hand l w n => [.str "hand", .int l, .str w, .int (n : Nat)]
  | .put b e n => [.str "put", .str b, e.tr, .int (n : Nat)]
  | .test c m n => [.str "test", c.tr, .int (m : Nat), .int (n : Nat)]
  | .wait l bs n => [.str "wait", .int l, .tup (bs.map brT), .int (n : Nat)]
  | .call m n => [.str "call", .int (m : Nat), .int (n : Nat)]
  | .back => [.str "back"]
  | .stop => [.str "stop"]
def Nd.tr (d : Nd) : Tr := .tup d.its
def renB (f : Nat → Nat) (b : List Pt × Nat) : List Pt × Nat := (b.1, f b.2)
def Nd.ren (f : Nat → Nat) : Nd → Nd
  | .say w n => .say w (f n)
  | .hand l w n => .hand l w (f n)
  | .put b e n => .put b e (f n)
  | .test c m n => .test c (f m) (f n)
  | .wait l bs n => .wait l (bs.map (renB f)) (f n)
  | .call m n => .call (f m) (f n)
  | .back => .back
  | .stop => .stop
def Nd.nexts : Nd → List Nat
  | .say _ n => [n]
  | .hand _ _ n => [n]
  | .put _ _ n => [n]
  | .test _ m n => [m, n]
  | .wait _ bs n => bs.map (·.2) ++ [n]
  | .call m n => [m, n]
  | .back => []
  | .stop => []
abbrev bxs : List Str := ["many", "mana"]
abbrev bxs3 : List Str := ["many", "mana", "mano"]
def Nd.okAt (n i : Nat) : Nd → Prop
  | .say _ k => i < k ∧ k < n
  | .hand _ _ k => i < k ∧ k < n
  | .put b e k => (i < k ∧ k < n) ∧ (e.ok bxs ∧ e.h ≤ 4) ∧ b ∈ bxs3
  | .test c a b => (i < a ∧ a < n) ∧ (i < b ∧ b < n) ∧ c.ok bxs 5 ∧ c.h ≤ 3
  | .wait _ bs k => (∀ b ∈ bs, b.2 < n) ∧ k < n ∧ bs.length ≤ 3
  | .call a b => (i < a ∧ a < n) ∧ i < b ∧ b < n
  | .back => True
  | .stop => True
theorem Nd.okAt.lt {n i : Nat} {d : Nd} (h : d.okAt n i) : ∀ k ∈ d.nexts, k < n := by
  intro k hk
  cases d with
  | say w m => simp only [Nd.nexts, List.mem_singleton] at hk; subst hk; exact h.2
  | hand l w m => simp only [Nd.nexts, List.mem_singleton] at hk; subst hk; exact h.2
  | put b e m => simp only [Nd.nexts, List.mem_singleton] at hk; subst hk; exact h.1.2
  | test c a b =>
    simp only [Nd.nexts, List.mem_cons, List.not_mem_nil, or_false] at hk
    rcases hk with rfl | rfl
    · exact h.1.2
    · exact h.2.1.2
  | wait l bs m =>
    simp only [Nd.nexts, List.mem_append, List.mem_map, List.mem_singleton] at hk
    rcases hk with ⟨b, hb, rfl⟩ | rfl
    · exact h.1 b hb
    · exact h.2.1
  | call a b =>
    simp only [Nd.nexts, List.mem_cons, List.not_mem_nil, or_false] at hk
    rcases hk with rfl | rfl
    · exact h.1.2
    · exact h.2.2
  | back => simp [Nd.nexts] at hk
  | stop => simp [Nd.nexts] at hk
def Nd.one? : Nd → Option (Str × List Tr × Nat)
  | .say w n => some ("say", [.str w], n)
  | .hand l w n => some ("hand", [.int l, .str w], n)
  | .put b e n => some ("put", [.str b, e.tr], n)
  | _ => none
theorem Nd.one_its {d : Nd} {k : Str} {r : List Tr} {n : Nat} (h : d.one? = some (k, r, n)) : d.its = .str k :: (r ++ [.int (n : Nat)]) ∧ (∀ f, (d.ren f).its = .str k :: (r ++ [.int (f n : Nat)])) ∧ d.nexts = [n] ∧
    k ≠ "wait" ∧ k ≠ "test" ∧ k ≠ "call" ∧ k ≠ "back" ∧ k ≠ "stop" ∧ r.length ≤ 2 := by
  cases d with
  | say w m => cases h; exact ⟨rfl, fun _ => rfl, rfl, by decide +kernel, by decide +kernel, by decide +kernel, by decide +kernel, by decide +kernel, by simp⟩
  | hand l w m => cases h; exact ⟨rfl, fun _ => rfl, rfl, by decide +kernel, by decide +kernel, by decide +kernel, by decide +kernel, by decide +kernel, by simp⟩
  | put b e m => cases h; exact ⟨rfl, fun _ => rfl, rfl, by decide +kernel, by decide +kernel, by decide +kernel, by decide +kernel, by decide +kernel, by simp⟩
  | _ => cases h
section
variable {H : Hp} {x : Tr} {xs : List Tr} {v : V} {vs ws : List V}
theorem ats_nil0 : Tr.Ats H [] vs [] ↔ vs = [] := by simp [Tr.Ats]
theorem ats_cons0 : Tr.Ats H (x :: xs) vs [] ↔ ∃ v ws, vs = v :: ws ∧ x.At H v [] ∧ Tr.Ats H xs ws [] := by
  simp only [Tr.Ats]
  constructor
  · rintro ⟨v, ws, f, g, h1, h2, h3, h4⟩
    obtain ⟨rfl, rfl⟩ := List.append_eq_nil_iff.mp h2.symm
    exact ⟨v, ws, h1, h3, h4⟩
  · rintro ⟨v, ws, h1, h3, h4⟩
    exact ⟨v, ws, [], [], h1, rfl, h3, h4⟩
theorem at_tup0 : (Tr.tup xs).At H v [] ↔ ∃ a vs, v = .ref a ∧ H a = some (.tup vs) ∧ Tr.Ats H xs vs [] := by simp only [Tr.At]
theorem at_int0 {i : Int} : (Tr.int i).At H v [] ↔ v = .int i := by simp [Tr.At]
theorem at_str0 {i : Str} : (Tr.str i).At H v [] ↔ v = .str i := by simp [Tr.At]
theorem ats_app0 : ∀ {xs ys : List Tr} {vs : List V}, Tr.Ats H (xs ++ ys) vs [] ↔ ∃ us ws, vs = us ++ ws ∧ Tr.Ats H xs us [] ∧ Tr.Ats H ys ws []
  | [], ys, vs => by
    constructor
    · intro h; exact ⟨[], vs, rfl, ats_nil0.mpr rfl, h⟩
    · rintro ⟨us, ws, rfl, h1, h2⟩
      rw [ats_nil0.mp h1]
      exact h2
  | x :: xs, ys, vs => by
    constructor
    · intro h
      obtain ⟨v, ws, rfl, h1, h2⟩ := ats_cons0.mp h
      obtain ⟨us, zs, rfl, h3, h4⟩ := ats_app0.mp h2
      exact ⟨v :: us, zs, rfl, ats_cons0.mpr ⟨v, us, rfl, h1, h3⟩, h4⟩
    · rintro ⟨us, ws, rfl, h1, h2⟩
      obtain ⟨v, us', rfl, h3, h4⟩ := ats_cons0.mp h1
      exact ats_cons0.mpr ⟨v, us' ++ ws, rfl, h3, ats_app0.mpr ⟨us', ws, rfl, h4, h2⟩⟩
theorem Tr.At.same {H H' : Hp} (h : x.At H v []) (s : Same H H') : x.At H' v [] := h.mono (s.keep _)
theorem Tr.Ats.same {H H' : Hp} (h : Tr.Ats H xs vs []) (s : Same H H') : Tr.Ats H' xs vs [] := h.mono (s.keep _)
theorem Tr.At.tups {H H' : Hp} (h : x.At H v []) (s : Tups H H') : x.At H' v [] := h.mono ⟨s, fun _ m => by simp at m⟩
theorem Tr.Ats.tups {H H' : Hp} (h : Tr.Ats H xs vs []) (s : Tups H H') : Tr.Ats H' xs vs [] := h.mono ⟨s, fun _ m => by simp at m⟩
end
section
variable {H : Hp} {v : V} {a : Addr}
theorem tup1_at {x : Tr} {u : V} (e : H a = some (.tup [u])) (h : x.At H u []) : (Tr.tup [x]).At H (.ref a) [] := at_tup0.mpr ⟨a, _, rfl, e, ats_cons0.mpr ⟨_, _, rfl, h, ats_nil0.mpr rfl⟩⟩
theorem tup2_at {x y : Tr} {u v : V} (e : H a = some (.tup [u, v])) (h : x.At H u []) (h2 : y.At H v []) : (Tr.tup [x, y]).At H (.ref a) [] := at_tup0.mpr ⟨a, _, rfl, e, ats_cons0.mpr ⟨_, _, rfl, h, ats_cons0.mpr ⟨_, _, rfl, h2, ats_nil0.mpr rfl⟩⟩⟩
theorem tup3_at {x y z : Tr} {u v w : V} (e : H a = some (.tup [u, v, w])) (h : x.At H u []) (h2 : y.At H v []) (h3 : z.At H w []) : (Tr.tup [x, y, z]).At H (.ref a) [] := at_tup0.mpr ⟨a, _, rfl, e, ats_cons0.mpr ⟨_, _, rfl, h, ats_cons0.mpr ⟨_, _, rfl, h2, ats_cons0.mpr ⟨_, _, rfl, h3, ats_nil0.mpr rfl⟩⟩⟩⟩
theorem tup4_at {x y z q : Tr} {u v w p : V} (e : H a = some (.tup [u, v, w, p])) (h : x.At H u []) (h2 : y.At H v []) (h3 : z.At H w []) (h4 : q.At H p []) : (Tr.tup [x, y, z, q]).At H (.ref a) [] := at_tup0.mpr ⟨a, _, rfl, e, ats_cons0.mpr ⟨_, _, rfl, h, ats_cons0.mpr ⟨_, _, rfl, h2, ats_cons0.mpr ⟨_, _, rfl, h3, ats_cons0.mpr ⟨_, _, rfl, h4, ats_nil0.mpr rfl⟩⟩⟩⟩⟩
theorem int_at {i : Int} : (Tr.int i).At H (.int i) [] := at_int0.mpr rfl
theorem str_at0 {i : Str} : (Tr.str i).At H (.str i) [] := at_str0.mpr rfl
theorem Nd.test_at {c : Cd} {m n : Nat} (h : (Nd.test c m n).tr.At H v []) : ∃ a u, v = .ref a ∧ H a = some (.tup [.str "test", u, .int (m : Nat), .int (n : Nat)]) ∧ c.tr.At H u [] := by
  obtain ⟨a, vs, rfl, e, h⟩ := at_tup0.mp h
  obtain ⟨v1, w1, rfl, h1, h⟩ := ats_cons0.mp h
  obtain ⟨v2, w2, rfl, h2, h⟩ := ats_cons0.mp h
  obtain ⟨v3, w3, rfl, h3, h⟩ := ats_cons0.mp h
  obtain ⟨v4, w4, rfl, h4, h⟩ := ats_cons0.mp h
  obtain rfl := ats_nil0.mp h
  obtain rfl := at_str0.mp h1
  obtain rfl := at_int0.mp h3
  obtain rfl := at_int0.mp h4
  exact ⟨a, v2, rfl, e, h2⟩
theorem Nd.call_at {m n : Nat} (h : (Nd.call m n).tr.At H v []) : ∃ a, v = .ref a ∧ H a = some (.tup [.str "call", .int (m : Nat), .int (n : Nat)]) := by
  obtain ⟨a, vs, rfl, e, h⟩ := at_tup0.mp h
  obtain ⟨v1, w1, rfl, h1, h⟩ := ats_cons0.mp h
  obtain ⟨v2, w2, rfl, h2, h⟩ := ats_cons0.mp h
  obtain ⟨v3, w3, rfl, h3, h⟩ := ats_cons0.mp h
  obtain rfl := ats_nil0.mp h
  obtain rfl := at_str0.mp h1
  obtain rfl := at_int0.mp h2
  obtain rfl := at_int0.mp h3
  exact ⟨a, rfl, e⟩
theorem Nd.wait_at {l : Int} {bs : List (List Pt × Nat)} {n : Nat} (h : (Nd.wait l bs n).tr.At H v []) : ∃ a b us, v = .ref a ∧ H a = some (.tup [.str "wait", .int l, .ref b, .int (n : Nat)]) ∧ H b = some (.tup us) ∧ Tr.Ats H (bs.map brT) us [] := by
  obtain ⟨a, vs, rfl, e, h⟩ := at_tup0.mp h
  obtain ⟨v1, w1, rfl, h1, h⟩ := ats_cons0.mp h
  obtain ⟨v2, w2, rfl, h2, h⟩ := ats_cons0.mp h
  obtain ⟨v3, w3, rfl, h3, h⟩ := ats_cons0.mp h
  obtain ⟨v4, w4, rfl, h4, h⟩ := ats_cons0.mp h
  obtain rfl := ats_nil0.mp h
  obtain rfl := at_str0.mp h1
  obtain rfl := at_int0.mp h2
  obtain rfl := at_int0.mp h4
  obtain ⟨b, us, rfl, e2, h3⟩ := at_tup0.mp h3
  exact ⟨a, b, us, rfl, e, e2, h3⟩
theorem Nd.back_at (h : Nd.back.tr.At H v []) : ∃ a, v = .ref a ∧ H a = some (.tup [.str "back"]) := by
  obtain ⟨a, vs, rfl, e, h⟩ := at_tup0.mp h
  obtain ⟨v1, w1, rfl, h1, h⟩ := ats_cons0.mp h
  obtain rfl := ats_nil0.mp h
  obtain rfl := at_str0.mp h1
  exact ⟨a, rfl, e⟩
theorem Nd.stop_at (h : Nd.stop.tr.At H v []) : ∃ a, v = .ref a ∧ H a = some (.tup [.str "stop"]) := by
  obtain ⟨a, vs, rfl, e, h⟩ := at_tup0.mp h
  obtain ⟨v1, w1, rfl, h1, h⟩ := ats_cons0.mp h
  obtain rfl := ats_nil0.mp h
  obtain rfl := at_str0.mp h1
  exact ⟨a, rfl, e⟩
theorem Nd.one_at {d : Nd} {k : Str} {r : List Tr} {n : Nat} (ho : d.one? = some (k, r, n)) (h : d.tr.At H v []) : ∃ a us, v = .ref a ∧ H a = some (.tup ((V.str k :: us) ++ [.int (n : Nat)])) ∧ Tr.Ats H r us [] ∧ us.length ≤ 2 := by
  obtain ⟨e1, _, _, _, _, _, _, _, hl⟩ := Nd.one_its ho
  unfold Nd.tr at h
  rw [e1] at h
  obtain ⟨a, vs, rfl, e, h⟩ := at_tup0.mp h
  obtain ⟨v1, w1, rfl, h1, h⟩ := ats_cons0.mp h
  obtain ⟨us, ws, rfl, h2, h3⟩ := ats_app0.mp h
  obtain ⟨v4, w4, rfl, h4, h⟩ := ats_cons0.mp h3
  obtain rfl := ats_nil0.mp h
  obtain rfl := at_str0.mp h1
  obtain rfl := at_int0.mp h4
  exact ⟨a, us, rfl, e, h2, by rw [h2.len]; exact hl⟩
def Nd.word : Nd → Str
  | .say _ _ => "say"
  | .hand _ _ _ => "hand"
  | .put _ _ _ => "put"
  | .test _ _ _ => "test"
  | .wait _ _ _ => "wait"
  | .call _ _ => "call"
  | .back => "back"
  | .stop => "stop"
theorem Nd.word_at {d : Nd} (h : d.tr.At H v []) : ∃ a us, v = .ref a ∧ H a = some (.tup (.str d.word :: us)) := by
  obtain ⟨a, vs, rfl, e, h⟩ := at_tup0.mp h
  have : ∃ r, d.its = .str d.word :: r := by cases d <;> exact ⟨_, rfl⟩
  obtain ⟨r, hr⟩ := this
  rw [hr] at h
  obtain ⟨v1, w1, rfl, h1, h⟩ := ats_cons0.mp h
  obtain rfl := at_str0.mp h1
  exact ⟨a, w1, rfl, e⟩
end
def natsV (l : List Nat) : List V := l.map fun k => V.int (k : Nat)
theorem natsV_int (l : List Nat) : natsV l = (l.map fun (k : Nat) => (k : Int)).map V.int := by simp [natsV]
theorem natsV_len (l : List Nat) : (natsV l).length = l.length := by simp [natsV]
theorem atI_nats {l : List Nat} {k : Nat} (h : k < l.length) : atI (natsV l) (k : Nat) = some (.int (l.getD k 0 : Nat)) := atI_nat (by simp [natsV, h])
theorem natsV_snoc (l : List Nat) (k : Nat) : natsV l ++ [V.int (k : Nat)] = natsV (l ++ [k]) := by simp [natsV]
def natsT (l : List Nat) : List Tr := l.map fun k => Tr.int (k : Nat)
theorem ats_nats {H : Hp} : ∀ l : List Nat, Tr.Ats H (natsT l) (natsV l) []
  | [] => by simp [natsT, natsV, Tr.Ats]
  | k :: l => ats_cons0.mpr ⟨_, _, rfl, int_at, ats_nats l⟩
theorem hs_nats : ∀ l : List Nat, Tr.hs (natsT l) = 0
  | [] => by simp [natsT, Tr.hs]
  | k :: l => by
    have := hs_nats l
    simp only [natsT, List.map_cons, Tr.hs, Tr.h] at this ⊢
    omega
def graphT (bs : List (Str × Int)) (ns : List Nd) (f : Nat) : List Tr := [.lst (bs.map boxT), .lst (ns.map Nd.tr), .int (f : Nat)]
structure GAt (H : Hp) (v : V) (bs : List (Str × Int)) (ns : List Nd) (f : Nat) (b n : Addr) : Prop where
  ex : ∃ a ub un, v = .ref a ∧ H a = some (.tup [.ref b, .ref n, .int (f : Nat)]) ∧ H b = some (.lst ub) ∧ Tr.Ats H (bs.map boxT) ub [] ∧ H n = some (.lst un) ∧ Tr.Ats H (ns.map Nd.tr) un []
theorem GAt.mono {H H' : Hp} {v : V} {bs : List (Str × Int)} {ns : List Nd} {f : Nat} {b n : Addr} (g : GAt H v bs ns f b n) (t : Tups H H') (kb : ∀ o, H b = some o → H' b = some o) (kn : ∀ o, H n = some o → H' n = some o) : GAt H' v bs ns f b n := by
  obtain ⟨a, ub, un, h1, h2, h3, h4, h5, h6⟩ := g.ex
  exact ⟨a, ub, un, h1, t _ _ h2, kb _ h3, h4.tups t, kn _ h5, h6.tups t⟩
theorem GAt.same {H H' : Hp} {v : V} {bs : List (Str × Int)} {ns : List Nd} {f : Nat} {b n : Addr} (g : GAt H v bs ns f b n) (s : Same H H') : GAt H' v bs ns f b n := g.mono s.tups (fun o h => s _ _ h) (fun o h => s _ _ h)
theorem GAt.tree {H : Hp} {v : V} {bs : List (Str × Int)} {ns : List Nd} {f : Nat} {b n : Addr} (g : GAt H v bs ns f b n) : (Tr.tup (graphT bs ns f)).At H v [b, n] := by
  obtain ⟨a, ub, un, h1, h2, h3, h4, h5, h6⟩ := g.ex
  simp only [graphT, Tr.At, Tr.Ats]
  exact ⟨a, _, h1, h2, .ref b, [.ref n, .int (f : Nat)], [b], [n], rfl, rfl, ⟨b, ub, [], rfl, h3, h4, rfl⟩, .ref n, [.int (f : Nat)], [n], [], rfl, rfl, ⟨n, un, [], rfl, h5, h6, rfl⟩, .int (f : Nat), [], [], [], rfl, rfl, ⟨rfl, rfl⟩, rfl, rfl⟩
theorem hs_pts0 : ∀ ps : List Pt, Tr.hs (ps.map Pt.tr) = 0
  | [] => by simp [Tr.hs]
  | p :: ps => by
    have : p.tr.h = 0 := by cases p <;> simp [Pt.tr, Tr.h]
    simp [Tr.hs, hs_pts0 ps, this]
theorem ex_trh : ∀ e : Ex, e.tr.h = e.h + 1
  | .num _ => by simp [Ex.tr, Tr.h, Tr.hs, Ex.h]
  | .box _ => by simp [Ex.tr, Tr.h, Tr.hs, Ex.h]
  | .two k a b => by
    have h1 := ex_trh a
    have h2 := ex_trh b
    simp only [Ex.tr, Tr.h, Tr.hs, Ex.h, h1, h2]
    omega
theorem cd_trh {ys : List Str} : ∀ {c : Cd}, c.ok ys 5 → c.tr.h ≤ c.h + 7
  | .cmp k a b, h => by
    have h1 := ex_trh a
    have h2 := ex_trh b
    have h3 := h.1.2
    have h4 := h.2.2
    simp only [Cd.tr, Tr.h, Tr.hs, Cd.h, h1, h2]
    omega
  | .nt c, h => by
    have h1 := cd_trh (c := c) h
    simp only [Cd.tr, Tr.h, Tr.hs, Cd.h]
    omega
  | .both c d, h => by
    have h1 := cd_trh (c := c) h.1
    have h2 := cd_trh (c := d) h.2
    simp only [Cd.tr, Tr.h, Tr.hs, Cd.h]
    omega
theorem nd_h {n i : Nat} {d : Nd} (h : d.okAt n i) : d.tr.h ≤ 11 := by
  cases d with
  | say w m => simp [Nd.tr, Nd.its, Tr.h, Tr.hs]
  | hand l w m => simp [Nd.tr, Nd.its, Tr.h, Tr.hs]
  | put b e m =>
    have h1 := h.2.1.2
    have h2 := ex_trh e
    simp only [Nd.tr, Nd.its, Tr.h, Tr.hs]
    omega
  | test c a b =>
    have h1 := h.2.2.2
    have h2 := cd_trh h.2.2.1
    simp only [Nd.tr, Nd.its, Tr.h, Tr.hs]
    omega
  | wait l bs m =>
    have hb : ∀ bs : List (List Pt × Nat), Tr.hs (bs.map brT) ≤ 2 := fun bs => by
      induction bs with
      | nil => simp [Tr.hs]
      | cons b bs ih => simp only [List.map_cons, Tr.hs, brT, Tr.h, hs_pts0]; omega
    have := hb bs
    simp only [Nd.tr, Nd.its, Tr.h, Tr.hs]
    omega
  | call a b => simp [Nd.tr, Nd.its, Tr.h, Tr.hs]
  | back => simp [Nd.tr, Nd.its, Tr.h, Tr.hs]
  | stop => simp [Nd.tr, Nd.its, Tr.h, Tr.hs]
structure Gok (ns : List Nd) (f : Nat) : Prop where
  at_ : ∀ (i : Nat) (d : Nd), ns[i]? = some d → d.okAt ns.length i
  first : f < ns.length
  few : ns.length ≤ 100
theorem Gok.hs {ns : List Nd} {f : Nat} (g : Gok ns f) : Tr.hs (ns.map Nd.tr) ≤ 11 := by
  have : ∀ l : List Nd, (∀ d ∈ l, d.tr.h ≤ 11) → Tr.hs (l.map Nd.tr) ≤ 11 := fun l => by
    induction l with
    | nil => intro _; simp [Tr.hs]
    | cons d l ih =>
      intro h
      have h1 := h d (by simp)
      have h2 := ih fun x m => h x (by simp [m])
      simp only [List.map_cons, Tr.hs]
      omega
  refine this ns fun d hd => ?_
  obtain ⟨i, hi, e⟩ := List.getElem_of_mem hd
  exact nd_h (g.at_ i d (by rw [List.getElem?_eq_getElem hi, e]))
theorem boxes_h0 : ∀ bs : List (Str × Int), Tr.hs (bs.map boxT) ≤ 1
  | [] => by simp [Tr.hs]
  | b :: bs => by
    have := boxes_h0 bs
    simp only [List.map_cons, Tr.hs, boxT, Tr.h]
    omega
theorem Gok.ghs {bs : List (Str × Int)} {ns : List Nd} {f : Nat} (g : Gok ns f) : Tr.hs (graphT bs ns f) ≤ 13 := by
  have h1 := g.hs
  have h2 := boxes_h0 bs
  simp only [graphT, Tr.hs, Tr.h]
  omega
structure OutAt (H : Hp) (v : V) (bs : List (Str × Int)) (ns : List Nd) (f : Nat) (sf : List Nat) (b n l : Addr) : Prop where
  ex : ∃ a g, v = .ref a ∧ H a = some (.tup [.ref g, .ref l]) ∧ GAt H (.ref g) bs ns f b n ∧ H l = some (.lst (natsV sf))
def outT (bs : List (Str × Int)) (ns : List Nd) (f : Nat) (sf : List Nat) : List Tr := [.tup (graphT bs ns f), .lst (natsT sf)]
theorem OutAt.tree {H : Hp} {v : V} {bs : List (Str × Int)} {ns : List Nd} {f : Nat} {sf : List Nat} {b n l : Addr} (o : OutAt H v bs ns f sf b n l) : (Tr.tup (outT bs ns f sf)).At H v [b, n, l] := by
  obtain ⟨a, g, rfl, h1, h2, h3⟩ := o.ex
  have h4 := h2.tree
  rw [outT, Tr.At]
  refine ⟨a, _, rfl, h1, ?_⟩
  rw [Tr.Ats]
  refine ⟨_, _, [b, n], [l], rfl, rfl, h4, ?_⟩
  rw [Tr.Ats]
  refine ⟨_, _, [l], [], rfl, rfl, ?_, by simp [Tr.Ats]⟩
  rw [Tr.At]
  exact ⟨l, _, [], rfl, h3, ats_nats sf, rfl⟩
theorem OutAt.mono {H H' : Hp} {v : V} {bs : List (Str × Int)} {ns : List Nd} {f : Nat} {sf : List Nat} {b n l : Addr} (o : OutAt H v bs ns f sf b n l) (s : Same H H') : OutAt H' v bs ns f sf b n l := by
  obtain ⟨a, g, h0, h1, h2, h3⟩ := o.ex
  exact ⟨a, g, h0, s _ _ h1, h2.same s, s _ _ h3⟩
theorem Nd.ren_h {d : Nd} (f : Nat → Nat) (h : d.tr.h ≤ 11) : (d.ren f).tr.h ≤ 11 := by
  cases d with
  | wait l bs m =>
    have hb : ∀ bs : List (List Pt × Nat), Tr.hs (bs.map brT) ≤ 2 := fun bs => by
      induction bs with
      | nil => simp [Tr.hs]
      | cons b bs ih => simp only [List.map_cons, Tr.hs, brT, Tr.h, hs_pts0]; omega
    have := hb (bs.map (renB f))
    simp only [Nd.ren, Nd.tr, Nd.its, Tr.h, Tr.hs]
    omega
  | _ => exact h
def leftN (ns : List Nd) (ks sf : List Nat) : List Nd := ks.map fun i => (ns.getD i .back).ren fun k => sf.getD k 0
theorem Gok.left_hs {bs : List (Str × Int)} {ns : List Nd} {f f' : Nat} (g : Gok ns f) (ks sf : List Nat) : Tr.hs (outT bs (leftN ns ks sf) f' sf) ≤ 20 := by
  have hd : ∀ i, (ns.getD i .back).tr.h ≤ 11 := fun i => by
    rw [List.getD_eq_getElem?_getD]
    cases e : ns[i]? with
    | none => simp [Nd.tr, Nd.its, Tr.h, Tr.hs]
    | some d => exact nd_h (g.at_ i d e)
  have h1 : ∀ ks : List Nat, Tr.hs ((leftN ns ks sf).map Nd.tr) ≤ 11 := fun ks => by
    induction ks with
    | nil => simp [leftN, Tr.hs]
    | cons k ks ih =>
      have h2 := Nd.ren_h (fun k => sf.getD k 0) (hd k)
      simp only [leftN, List.map_cons, Tr.hs] at ih ⊢
      omega
  have h2 := h1 ks
  have h3 := boxes_h0 bs
  have h4 := hs_nats sf
  simp only [outT, graphT, Tr.hs, Tr.h]
  omega
def wayV : Option Nat → V
  | none => .non
  | some k => .int (k : Nat)
def waysV (ws : List (Option Nat)) : List V := ws.map wayV
theorem atI_ways {ws : List (Option Nat)} {k : Nat} {o : Option Nat} (h : ws[k]? = some o) : atI (waysV ws) (k : Nat) = some (wayV o) := atI_nat (by simp [waysV, h])
theorem wayV_non {o : Option Nat} : wayV o = .non ↔ o = none := by cases o <;> simp [wayV]
def placeKv (ks : List Nat) : List (Key × V) := ks.zipIdx.map fun p => (Sum.inl (p.1 : Int), V.int (p.2 : Nat))
theorem placeKv_snoc (ks : List Nat) (k : Nat) : placeKv (ks ++ [k]) = placeKv ks ++ [(Sum.inl (k : Int), V.int (ks.length : Nat))] := by
  unfold placeKv
  rw [List.zipIdx_append, List.map_append]
  simp
theorem mergeK_snoc (l : List (Key × V)) (p : Key × V) : mergeK [] (l ++ [p]) = putK (mergeK [] l) p.1 p.2 := by
  unfold mergeK
  rw [List.foldl_append]
  rfl
theorem place_val : ∀ (n : Nat) (ks : List Nat), ks.length = n → ks.Nodup → ∀ (i j : Nat), ks[i]? = some j → valV (mergeK [] (placeKv ks)) (Sum.inl (j : Int)) = some (.int (i : Nat))
  | 0, ks, hl, _, i, j, e => by
    rw [List.length_eq_zero_iff] at hl
    subst hl
    simp at e
  | n + 1, ks, hl, hn, i, j, e => by
    obtain ⟨ks, k, rfl⟩ : ∃ l k, ks = l ++ [k] := ⟨ks.dropLast, ks.getLast (by intro z; rw [z] at hl; simp at hl), (List.dropLast_concat_getLast _).symm⟩
    have hl' : ks.length = n := by simpa using hl
    rw [placeKv_snoc, mergeK_snoc, valV_put]
    have hn1 : ks.Nodup := (List.nodup_append.mp hn).1
    by_cases hi : i < ks.length
    · rw [List.getElem?_append_left hi] at e
      have hne : j ≠ k := fun z => by
        subst z
        have := (List.nodup_append.mp hn).2.2 j (List.mem_of_getElem? e) j (by simp)
        exact this rfl
      rw [if_neg (fun z => hne (by have := Sum.inl.inj z; omega))]
      exact place_val n ks hl' hn1 i j e
    · rw [List.getElem?_append_right (by omega)] at e
      have hi0 : i - ks.length = 0 := by
        have := (List.getElem?_eq_some_iff.mp e).1
        simp at this; omega
      rw [hi0] at e
      simp at e
      subst e
      rw [if_pos rfl]
      have : i = ks.length := by omega
      rw [this]
theorem lst_upd {H : Hp} {l m : Addr} {xs zs : List V} (h : H l = some (.lst xs)) : ∃ ys, upd H m (.lst zs) l = some (.lst ys) := by
  by_cases e : l = m
  · subst e; exact ⟨zs, upd_same⟩
  · exact ⟨xs, by rw [upd_ne e]; exact h⟩
def tailW (ns : List Nd) : Nd → Option Nat
  | .call m n => if (ns.getD n .stop).word = Str.ofString "back" then some m else none
  | _ => none
def tailWs (ns : List Nd) : List (Option Nat) := ns.map (tailW ns)
theorem tail_ups {ns : List Nd} {f : Nat} (g : Gok ns f) : Ups (tailWs ns) := ⟨fun i k h => by
  unfold tailWs at h
  rw [List.getElem?_map] at h
  cases e : ns[i]? with
  | none => rw [e] at h; cases h
  | some d =>
    rw [e] at h
    have h1 := g.at_ i d e
    have h' : tailW ns d = some k := Option.some.inj h
    cases d with
    | call a b =>
      simp only [tailW] at h'
      split at h'
      · cases h'
        simpa [tailWs] using h1.1
      · cases h'
    | _ => cases h'⟩
end L2
namespace L2
open PySem PySem.Spec PyProof.Rows
def tDNewN : TE := fun _ H Q => New H (.dK []) Q
theorem pe_dnewN {X : Cx} {pos : Pos} : PE X (.Dict [] [] pos) tDNewN := fun pins s σ H Q I h => pe_dnewK pins s σ H Q I (New.to h)
section
variable {σ : St} {H : Hp} {Q : VK} {QT : Bool → Hp → Prop} {td ty tv te : TE} {nn bb cc : St → Hp → Prop} {rr : VK}
theorem i_dnew (h : New H (.dK []) Q) : tDNewN σ H Q := h
theorem i_tB (h : te σ H fun x H1 => ∃ c, x = .bl c ∧ QT c H1) : tB te σ H QT := h
theorem i_din (h : ty σ H fun y H1 => td σ H1 fun x H2 => ∃ a o, x = .ref a ∧ DGet H2 a y o ∧ Q (.bl o.isSome) H2) : tDIn ty td σ H Q := h
theorem i_dnotin (h : ty σ H fun y H1 => td σ H1 fun x H2 => ∃ a o, x = .ref a ∧ DGet H2 a y o ∧ Q (.bl (!o.isSome)) H2) : tDNotIn ty td σ H Q := h
theorem i_dput (h : tv σ H fun v H1 => td σ H1 fun x H2 => ty σ H2 fun y H3 => ∃ a H4, x = .ref a ∧ DPut H3 a y v H4 ∧ nn σ H4) : sDPut td ty tv ⟨nn, rr, bb, cc⟩ σ H := h
theorem i_inLs {K : PySem.W.Frag} {p : Addr} {ys : List Str} {w : Str} (h1 : SqL K H p (strsV ys)) (h : Q (.bl (decide (w ∈ ys))) H) : rIn K false (.str w) (.ref p) H Q := ⟨p, strsV ys, rfl, .inl h1, rfl, strs_flat ys, by rw [inV_strs]; exact h⟩
def SetD (H : Hp) (d : Addr) (rd : List Str) : Prop := ∃ kvs, H d = some (.dK kvs) ∧ kvs.length ≤ rd.length ∧ ∀ s : Str, (valV kvs (Sum.inr s)).isSome = decide (s ∈ rd)
theorem SetD.mono {H' : Hp} {d : Addr} {rd : List Str} (h : SetD H d rd) (s : Same H H') : SetD H' d rd := by
  obtain ⟨kvs, h1, h2, h3⟩ := h
  exact ⟨kvs, s _ _ h1, h2, h3⟩
theorem i_setIn {d : Addr} {rd : List Str} {w : Str} (h1 : SetD H d rd) (h : Q (.bl (decide (w ∈ rd))) H) : ∃ a o, V.ref d = .ref a ∧ DGet H a (.str w) o ∧ Q (.bl o.isSome) H := by
  obtain ⟨kvs, h2, _, h3⟩ := h1
  exact ⟨d, _, rfl, .inl ⟨kvs, Sum.inr w, .inl h2, rfl, rfl⟩, by rw [h3]; exact h⟩
theorem i_setNotIn {d : Addr} {rd : List Str} {w : Str} (h1 : SetD H d rd) (h : Q (.bl (!decide (w ∈ rd))) H) : ∃ a o, V.ref d = .ref a ∧ DGet H a (.str w) o ∧ Q (.bl (!o.isSome)) H := by
  obtain ⟨kvs, h2, _, h3⟩ := h1
  exact ⟨d, _, rfl, .inl ⟨kvs, Sum.inr w, .inl h2, rfl, rfl⟩, by rw [h3]; exact h⟩
theorem i_setInB {d : Addr} {rd : List Str} {w : Str} {p : Bool → Prop} (h1 : SetD H d rd) (h : p (decide (w ∈ rd))) : ∃ a o, V.ref d = .ref a ∧ DGet H a (.str w) o ∧ ∃ c, V.bl o.isSome = .bl c ∧ p c := i_setIn (Q := fun x _ => ∃ c, x = .bl c ∧ p c) h1 ⟨_, rfl, h⟩
theorem i_setNotInB {d : Addr} {rd : List Str} {w : Str} {p : Bool → Prop} (h1 : SetD H d rd) (h : p (!decide (w ∈ rd))) : ∃ a o, V.ref d = .ref a ∧ DGet H a (.str w) o ∧ ∃ c, V.bl (!o.isSome) = .bl c ∧ p c := i_setNotIn (Q := fun x _ => ∃ c, x = .bl c ∧ p c) h1 ⟨_, rfl, h⟩
theorem SetD.put {d : Addr} {rd : List Str} {w : Str} {v : V} (h : SetD H d rd) (hz : rd.length < 1000000) : ∃ H4, DPut H d (.str w) v H4 ∧ SetD H4 d (rd ++ [w]) ∧ ∃ o, H4 = upd H d (.dK o) := by
  obtain ⟨kvs, h2, h3, h4⟩ := h
  refine ⟨_, .inl ⟨kvs, Sum.inr w, h2, rfl, Nat.lt_of_lt_of_le (show kvs.length < 1000000 by omega) (le_line (Nat.le_refl _)), rfl⟩, ⟨putK kvs (Sum.inr w) v, upd_same, ?_, fun s => ?_⟩, _, rfl⟩
  · have := length_putK kvs (Sum.inr w) v
    simp only [List.length_append, List.length_cons, List.length_nil]
    omega
  · rw [valV_put]
    by_cases e : s = w
    · subst e
      rw [if_pos rfl]
      simp
    · rw [if_neg (fun z => e (by cases z; rfl)), h4]
      simp [e]
theorem setD_new {d : Addr} (h : H d = some (.dK [])) : SetD H d [] := ⟨[], h, Nat.le_refl _, fun s => by simp [valV_nil]⟩
theorem tups_updD {d : Addr} {kvs : List (Key × V)} {o : HO} (h : H d = some (.dK kvs)) : Tups H (upd H d o) := fun b ys e => by rw [upd_ne (ne_of e h (fun z => nomatch z))]; exact e
end
theorem ex_at0 {H : Hp} : ∀ {e : Ex} {v : V}, e.tr.At H v [] → e.At H v
  | .num i, v, h => by
    obtain ⟨a, vs, rfl, e, h⟩ := at_tup0.mp h
    obtain ⟨v1, w1, rfl, h1, h⟩ := ats_cons0.mp h
    obtain ⟨v2, w2, rfl, h2, h⟩ := ats_cons0.mp h
    obtain rfl := ats_nil0.mp h
    obtain rfl := at_str0.mp h1
    obtain rfl := at_int0.mp h2
    exact ⟨a, rfl, e⟩
  | .box i, v, h => by
    obtain ⟨a, vs, rfl, e, h⟩ := at_tup0.mp h
    obtain ⟨v1, w1, rfl, h1, h⟩ := ats_cons0.mp h
    obtain ⟨v2, w2, rfl, h2, h⟩ := ats_cons0.mp h
    obtain rfl := ats_nil0.mp h
    obtain rfl := at_str0.mp h1
    obtain rfl := at_str0.mp h2
    exact ⟨a, rfl, e⟩
  | .two k x y, v, h => by
    obtain ⟨a, vs, rfl, e, h⟩ := at_tup0.mp h
    obtain ⟨v1, w1, rfl, h1, h⟩ := ats_cons0.mp h
    obtain ⟨v2, w2, rfl, h2, h⟩ := ats_cons0.mp h
    obtain ⟨v3, w3, rfl, h3, h⟩ := ats_cons0.mp h
    obtain rfl := ats_nil0.mp h
    obtain rfl := at_str0.mp h1
    exact ⟨a, v2, v3, rfl, e, ex_at0 h2, ex_at0 h3⟩
theorem cd_at0 {H : Hp} : ∀ {c : Cd} {v : V}, c.tr.At H v [] → c.At H v
  | .cmp k x y, v, h => by
    obtain ⟨a, vs, rfl, e, h⟩ := at_tup0.mp h
    obtain ⟨v1, w1, rfl, h1, h⟩ := ats_cons0.mp h
    obtain ⟨v2, w2, rfl, h2, h⟩ := ats_cons0.mp h
    obtain ⟨v3, w3, rfl, h3, h⟩ := ats_cons0.mp h
    obtain rfl := ats_nil0.mp h
    obtain rfl := at_str0.mp h1
    exact ⟨a, v2, v3, rfl, e, ex_at0 h2, ex_at0 h3⟩
  | .nt c, v, h => by
    obtain ⟨a, vs, rfl, e, h⟩ := at_tup0.mp h
    obtain ⟨v1, w1, rfl, h1, h⟩ := ats_cons0.mp h
    obtain ⟨v2, w2, rfl, h2, h⟩ := ats_cons0.mp h
    obtain rfl := ats_nil0.mp h
    obtain rfl := at_str0.mp h1
    exact ⟨a, v2, rfl, e, cd_at0 h2⟩
  | .both x y, v, h => by
    obtain ⟨a, vs, rfl, e, h⟩ := at_tup0.mp h
    obtain ⟨v1, w1, rfl, h1, h⟩ := ats_cons0.mp h
    obtain ⟨v2, w2, rfl, h2, h⟩ := ats_cons0.mp h
    obtain ⟨v3, w3, rfl, h3, h⟩ := ats_cons0.mp h
    obtain rfl := ats_nil0.mp h
    obtain rfl := at_str0.mp h1
    exact ⟨a, v2, v3, rfl, e, cd_at0 h2, cd_at0 h3⟩
theorem cd_hh {ys : List Str} : ∀ {c : Cd}, c.ok ys 5 → c.hh ≤ c.h + 6
  | .cmp k a b, h => by
    have h3 := h.1.2
    have h4 := h.2.2
    simp only [Cd.hh, Cd.h]
    omega
  | .nt c, h => by
    have h1 := cd_hh (c := c) h
    simp only [Cd.hh, Cd.h]
    omega
  | .both c d, h => by
    have h1 := cd_hh (c := c) h.1
    have h2 := cd_hh (c := d) h.2
    simp only [Cd.hh, Cd.h]
    omega
theorem Nd.put_at {H : Hp} {v : V} {b : Str} {e : Ex} {n : Nat} (h : (Nd.put b e n).tr.At H v []) : ∃ a u, v = .ref a ∧ H a = some (.tup [.str "put", .str b, u, .int (n : Nat)]) ∧ e.tr.At H u [] := by
  obtain ⟨a, vs, rfl, e, h⟩ := at_tup0.mp h
  obtain ⟨v1, w1, rfl, h1, h⟩ := ats_cons0.mp h
  obtain ⟨v2, w2, rfl, h2, h⟩ := ats_cons0.mp h
  obtain ⟨v3, w3, rfl, h3, h⟩ := ats_cons0.mp h
  obtain ⟨v4, w4, rfl, h4, h⟩ := ats_cons0.mp h
  obtain rfl := ats_nil0.mp h
  obtain rfl := at_str0.mp h1
  obtain rfl := at_str0.mp h2
  obtain rfl := at_int0.mp h4
  exact ⟨a, v3, rfl, e, h3⟩
def Nd.reads : Nd → List Str
  | .put _ e _ => e.names
  | .test c _ _ => c.names
  | _ => []
def readN (ns : List Nd) : List Str := ns.flatMap Nd.reads
def deafW (rd : List Str) : Nd → Option Nat
  | .put b _ n => if b ∈ rd then none else some n
  | _ => none
def deafWs (ns : List Nd) : List (Option Nat) := ns.map (deafW (readN ns))
theorem deaf_ups {ns : List Nd} {f : Nat} (g : Gok ns f) : Ups (deafWs ns) := ⟨fun i k h => by
  unfold deafWs at h
  rw [List.getElem?_map] at h
  cases e : ns[i]? with
  | none => rw [e] at h; cases h
  | some d =>
    rw [e] at h
    have h1 := g.at_ i d e
    have h' : deafW (readN ns) d = some k := Option.some.inj h
    cases d with
    | put b x n =>
      simp only [deafW] at h'
      split at h'
      · cases h'
      · cases h'
        simpa [deafWs] using h1.1
    | _ => cases h'⟩
theorem reads_le {n i : Nat} {d : Nd} (h : d.okAt n i) : d.reads.length ≤ 10000 := by
  cases d with
  | put b e m => exact Nat.le_trans e.names_le (Th.sz_le (.ex e) (by have := h.2.1.2; simp only [Th.hh]; omega))
  | test c a b => exact Nat.le_trans c.names_le (Th.sz_le (.cd c) (by have := cd_hh h.2.2.1; have := h.2.2.2; simp only [Th.hh]; omega))
  | _ => simp [Nd.reads]
end L2
namespace L2
def addAll (row : List Nat) (ks : List Nat) : List Nat := ks.foldl (fun r k => if k ∈ r then r else r ++ [k]) row
theorem addAll_nil (row : List Nat) : addAll row [] = row := rfl
theorem addAll_snoc (row ks : List Nat) (k : Nat) : addAll row (ks ++ [k]) = if k ∈ addAll row ks then addAll row ks else addAll row ks ++ [k] := by
  unfold addAll
  rw [List.foldl_append]
  rfl
theorem addAll_ok {n : Nat} {row : List Nat} (hn : row.Nodup) (hl : ∀ k ∈ row, k < n) : ∀ (ks : List Nat), (∀ k ∈ ks, k < n) → (∃ t, addAll row ks = row ++ t) ∧ (addAll row ks).Nodup ∧ (∀ k ∈ addAll row ks, k < n) ∧ ∀ k ∈ ks, k ∈ addAll row ks := by
  have gen : ∀ (m : Nat) (ks : List Nat), ks.length = m → (∀ k ∈ ks, k < n) → (∃ t, addAll row ks = row ++ t) ∧ (addAll row ks).Nodup ∧ (∀ k ∈ addAll row ks, k < n) ∧ ∀ k ∈ ks, k ∈ addAll row ks := by
    intro m
    induction m with
    | zero =>
      intro ks hk _
      rw [List.length_eq_zero_iff] at hk
      subst hk
      exact ⟨⟨[], by simp [addAll]⟩, hn, hl, by simp⟩
    | succ m ih =>
      intro ks hk hlt
      obtain ⟨ls, k, rfl⟩ : ∃ l k, ks = l ++ [k] := ⟨ks.dropLast, ks.getLast (by intro z; rw [z] at hk; simp at hk), (List.dropLast_concat_getLast _).symm⟩
      obtain ⟨⟨t, h1⟩, h2, h3, h4⟩ := ih ls (by simpa using hk) (fun x hx => hlt x (by simp [hx]))
      rw [addAll_snoc]
      by_cases hk : k ∈ addAll row ls
      · rw [if_pos hk]
        refine ⟨⟨t, h1⟩, h2, h3, fun x hx => ?_⟩
        rcases List.mem_append.mp hx with hx | hx
        · exact h4 x hx
        · rw [List.mem_singleton.mp hx]; exact hk
      · rw [if_neg hk]
        refine ⟨⟨t ++ [k], by rw [h1, List.append_assoc]⟩, ?_, ?_, ?_⟩
        · rw [List.nodup_append]
          refine ⟨h2, by simp, fun a ha b hb => ?_⟩
          rw [List.mem_singleton.mp hb]
          exact fun z => hk (z ▸ ha)
        · intro x hx
          rcases List.mem_append.mp hx with hx | hx
          · exact h3 x hx
          · rw [List.mem_singleton.mp hx]; exact hlt k (by simp)
        · intro x hx
          rcases List.mem_append.mp hx with hx | hx
          · exact List.mem_append_left _ (h4 x hx)
          · rw [List.mem_singleton.mp hx]; simp
  exact fun ks => gen ks.length ks rfl
theorem pigeon : ∀ (n : Nat) (l : List Nat), l.Nodup → (∀ k ∈ l, k < n) → l.length ≤ n
  | 0, l, _, h => by
    cases l with
    | nil => simp
    | cons a l => exact absurd (h a (by simp)) (Nat.not_lt_zero _)
  | n + 1, l, hn, h => by
    by_cases hm : n ∈ l
    · have h1 := List.length_erase_of_mem hm
      have h2 := pigeon n (l.erase n) (hn.erase n) (fun k hk => by
        have h3 := hn.mem_erase_iff.mp hk
        have := h k h3.2
        have := h3.1
        omega)
      have : 0 < l.length := List.length_pos_of_mem hm
      omega
    · have := pigeon n l hn (fun k hk => by
        have h1 := h k hk
        have : k ≠ n := fun z => hm (z ▸ hk)
        omega)
      omega
def bfs (nx : Nat → List Nat) : Nat → Nat → List Nat → List Nat
  | 0, _, row => row
  | fuel + 1, p, row => match row[p]? with
    | none => row
    | some k => bfs nx fuel (p + 1) (addAll row (nx k))
structure Bf (nx : Nat → List Nat) (n p : Nat) (row : List Nat) : Prop where
  nd : row.Nodup
  lt : ∀ k ∈ row, k < n
  le : p ≤ row.length
  cl : ∀ (i k : Nat), i < p → row[i]? = some k → ∀ j ∈ nx k, j ∈ row
theorem Bf.step {nx : Nat → List Nat} {n p k : Nat} {row : List Nat} (h : Bf nx n p row) (e : row[p]? = some k) (hx : ∀ j ∈ nx k, j < n) : Bf nx n (p + 1) (addAll row (nx k)) := by
  obtain ⟨⟨t, h1⟩, h2, h3, h4⟩ := addAll_ok h.nd h.lt (nx k) hx
  have hp := (List.getElem?_eq_some_iff.mp e).1
  refine ⟨h2, h3, by rw [h1, List.length_append]; omega, fun i k' hi ek j hj => ?_⟩
  have hi' : i < row.length := by omega
  rw [h1, List.getElem?_append_left hi'] at ek
  by_cases hip : i < p
  · rw [h1]; exact List.mem_append_left _ (h.cl i k' hip ek j hj)
  · have : i = p := by omega
    subst this
    rw [e] at ek
    cases ek
    exact h4 j hj
theorem Bf.few {nx : Nat → List Nat} {n p : Nat} {row : List Nat} (h : Bf nx n p row) : row.length ≤ n := pigeon n row h.nd h.lt
theorem Bf.end_ {nx : Nat → List Nat} {n : Nat} (hx : ∀ k, k < n → ∀ j ∈ nx k, j < n) : ∀ (fuel p : Nat) (row : List Nat), Bf nx n p row → n + 1 ≤ fuel + p → Bf nx n (bfs nx fuel p row).length (bfs nx fuel p row)
  | 0, p, row, h, hf => absurd (Nat.le_trans h.le h.few) (by omega)
  | fuel + 1, p, row, h, hf => by
    unfold bfs
    cases e : row[p]? with
    | none =>
      have : p = row.length := by
        have := List.getElem?_eq_none_iff.mp e
        have := h.le
        omega
      rw [this] at h
      exact h
    | some k => exact Bf.end_ hx fuel (p + 1) _ (h.step e (hx k (h.lt k (List.mem_of_getElem? e)))) (by omega)
theorem bfs_go {nx : Nat → List Nat} {fuel p k : Nat} {row : List Nat} (e : row[p]? = some k) : bfs nx (fuel + 1) p row = bfs nx fuel (p + 1) (addAll row (nx k)) := by
  conv => lhs; unfold bfs
  rw [e]
theorem bfs_stop {nx : Nat → List Nat} {fuel p : Nat} {row : List Nat} (e : row.length ≤ p) : bfs nx fuel p row = row := by
  cases fuel with
  | zero => rfl
  | succ fuel =>
    unfold bfs
    rw [List.getElem?_eq_none e]
def posW (row : List Nat) (n : Nat) : List (Option Nat) := (List.range n).map fun k => if k ∈ row then some (row.idxOf k) else none
theorem posW_at {row : List Nat} {n k : Nat} (hk : k < n) : (posW row n)[k]? = some (if k ∈ row then some (row.idxOf k) else none) := by
  unfold posW
  rw [List.getElem?_map, List.getElem?_range hk]
  rfl
theorem idx_get {row : List Nat} {k : Nat} (h : k ∈ row) : row[row.idxOf k]? = some k := by
  have h1 := List.idxOf_lt_length_of_mem h
  rw [List.getElem?_eq_getElem h1]
  simp
theorem idx_of {row : List Nat} (hn : row.Nodup) {i k : Nat} (e : row[i]? = some k) : row.idxOf k = i := by
  have hm : k ∈ row := List.mem_of_getElem? e
  have h1 := idx_get hm
  obtain ⟨a1, b1⟩ := List.getElem?_eq_some_iff.mp e
  obtain ⟨a2, b2⟩ := List.getElem?_eq_some_iff.mp h1
  have := List.nodup_iff_pairwise_ne.mp hn
  rw [List.pairwise_iff_getElem] at this
  rcases Nat.lt_trichotomy (row.idxOf k) i with h | h | h
  · exact absurd (b2.trans b1.symm) (this _ _ a2 a1 h)
  · exact h
  · exact absurd (b1.trans b2.symm) (this _ _ a1 a2 h)
def posT (row : List Nat) (n i : Nat) : List (Option Nat) := (List.range n).map fun k => if k ∈ row.take i then some (row.idxOf k) else none
theorem posT_zero (row : List Nat) (n : Nat) : posT row n 0 = List.replicate n none := by
  unfold posT
  rw [List.eq_replicate_iff]
  exact ⟨by simp, by simp⟩
theorem posT_len (row : List Nat) (n i : Nat) : (posT row n i).length = n := by simp [posT]
theorem posT_all (row : List Nat) (n : Nat) : posT row n row.length = posW row n := by
  unfold posT posW
  rw [List.take_length]
theorem posT_succ {row : List Nat} {n i k : Nat} (hn : row.Nodup) (e : row[i]? = some k) (hk : k < n) : (posT row n i).set k (some i) = posT row n (i + 1) := by
  refine List.ext_getElem? fun j => ?_
  rw [List.getElem?_set]
  have hlen := posT_len row n i
  by_cases hj : j < n
  · have e1 : (posT row n i)[j]? = some (if j ∈ row.take i then some (row.idxOf j) else none) := by
      unfold posT; rw [List.getElem?_map, List.getElem?_range hj]; rfl
    have e2 : (posT row n (i + 1))[j]? = some (if j ∈ row.take (i + 1) then some (row.idxOf j) else none) := by
      unfold posT; rw [List.getElem?_map, List.getElem?_range hj]; rfl
    rw [e1, e2]
    rw [List.take_add_one, e]
    by_cases hjk : k = j
    · subst hjk
      rw [if_pos rfl, if_pos (by rw [hlen]; exact hk), if_pos (by simp), idx_of hn e]
    · rw [if_neg hjk]
      have : (j ∈ row.take i ++ (some k).toList) ↔ j ∈ row.take i := by
        simp [Ne.symm hjk]
      by_cases hm : j ∈ row.take i
      · rw [if_pos hm, if_pos (this.mpr hm)]
      · rw [if_neg hm, if_neg (fun z => hm (this.mp z))]
  · have e1 : (posT row n i)[j]? = none := List.getElem?_eq_none (by rw [hlen]; omega)
    have e2 : (posT row n (i + 1))[j]? = none := List.getElem?_eq_none (by rw [posT_len]; omega)
    rw [e1, e2]
    by_cases hjk : k = j
    · omega
    · rw [if_neg hjk]
end L2
namespace L2
open PySem PySem.Spec PyProof.Rows
section
variable {X : Cx} {σ : St} {H : Hp} {Q : VK} {QT : Bool → Hp → Prop} {td ty tv te : TE} {nn bb cc : St → Hp → Prop} {rr : VK}
theorem i_disp1 {i : Nat} {k : Key} {y : V} (e : σ[i]? = some (some (kV k))) (h : New H (.dK [(k, y)]) Q) : tDisp [(tVar i, tC y)] σ H Q := fun p hp => ⟨kV k, e, upd_same, [(k, y)], rfl, by simp, by rw [upd_upd]; exact New.to h p hp⟩
theorem i_aug1 {i : Nat} {a c : Int} {f : Int → Int → Int} (e : σ[i]? = some (some (.int a))) (h : nn (σ.set i (some (.int (f a c)))) H) : tAug i (tC (.int c)) (ipI f) ⟨nn, rr, bb, cc⟩ σ H := ⟨_, e, a, c, rfl, rfl, h⟩
theorem i_dget1 (h : td σ H fun x H1 => ∃ a, x = .ref a ∧ IsD H1 a ∧ ty σ H1 fun y H2 => ∃ o, DGet H2 a y o ∧ Q (o.getD .non) H2) : tDGet1 td ty σ H Q := h
def rRepN : R2 := fun x y H Q => ∃ l k xs, x = .ref l ∧ y = .int k ∧ H l = some (.lst xs) ∧ -(2 ^ 63) ≤ k ∧ k < 2 ^ 63 ∧ xs.length * k.toNat ≤ sizeLine ∧ New H (.lst (List.replicate k.toNat xs).flatten) Q
theorem kop_repN : OpR X (binaryOp .Mult) rRepN := by
  intro pins s σ H x y v u Q I rx ry h
  obtain ⟨l, k, xs, e1, e2, h1, h2, h3, h4, h5⟩ := h
  exact op_rep pins s σ H x y v u Q I rx ry ⟨l, k, xs, e1, e2, h1, h2, h3, h4, New.to h5⟩
theorem rep_none : ∀ k : Nat, (List.replicate k [V.non]).flatten = waysV (List.replicate k none)
  | 0 => rfl
  | k + 1 => by
    have := rep_none k
    rw [List.replicate_succ, List.flatten_cons, this, List.replicate_succ]
    rfl
theorem i_repNone {l : Addr} {k : Nat} (h1 : H l = some (.lst [.non])) (hk : k ≤ 1000) (h : New H (.lst (waysV (List.replicate k none))) Q) : rRepN (.ref l) (.int (k : Nat)) H Q :=
  ⟨l, k, [.non], rfl, rfl, h1, by omega, by omega, le_line (by simp; omega), by rw [Int.toNat_natCast, rep_none]; exact h⟩
def SetI (H : Hp) (d : Addr) (row : List Nat) : Prop := ∃ kvs, H d = some (.dK kvs) ∧ kvs.length ≤ row.length ∧ ∀ k : Nat, (valV kvs (Sum.inl (k : Int))).isSome = decide (k ∈ row)
theorem SetI.mono {H' : Hp} {d : Addr} {row : List Nat} (h : SetI H d row) (s : Same H H') : SetI H' d row := by
  obtain ⟨kvs, h1, h2, h3⟩ := h
  exact ⟨kvs, s _ _ h1, h2, h3⟩
theorem i_setNotInI {d : Addr} {row : List Nat} {k : Nat} {p : Bool → Prop} (h1 : SetI H d row) (h : p (!decide (k ∈ row))) : ∃ a o, V.ref d = .ref a ∧ DGet H a (.int (k : Nat)) o ∧ ∃ c, V.bl (!o.isSome) = .bl c ∧ p c := by
  obtain ⟨kvs, h2, _, h3⟩ := h1
  exact ⟨d, _, rfl, .inl ⟨kvs, Sum.inl (k : Int), .inl h2, rfl, rfl⟩, _, rfl, by rw [h3]; exact h⟩
theorem SetI.put {d : Addr} {row : List Nat} {k : Nat} {v : V} (h : SetI H d row) (hz : row.length < 1000000) : ∃ H4, DPut H d (.int (k : Nat)) v H4 ∧ SetI H4 d (row ++ [k]) ∧ ∃ o, H4 = upd H d (.dK o) := by
  obtain ⟨kvs, h2, h3, h4⟩ := h
  refine ⟨_, .inl ⟨kvs, Sum.inl (k : Int), h2, rfl, Nat.lt_of_lt_of_le (show kvs.length < 1000000 by omega) (le_line (Nat.le_refl _)), rfl⟩, ⟨putK kvs (Sum.inl (k : Int)) v, upd_same, ?_, fun s => ?_⟩, _, rfl⟩
  · have := length_putK kvs (Sum.inl (k : Int)) v
    simp only [List.length_append, List.length_cons, List.length_nil]
    omega
  · rw [valV_put]
    by_cases e : s = k
    · subst e
      rw [if_pos rfl]
      simp
    · rw [if_neg (fun z => e (by have := Sum.inl.inj z; omega)), h4]
      simp [e]
theorem setI_one {d : Addr} {k : Nat} {v : V} (h : H d = some (.dK [(Sum.inl (k : Int), v)])) : SetI H d [k] := ⟨_, h, Nat.le_refl _, fun s => by
  by_cases e : s = k
  · subst e
    rw [valV_pos rfl]
    simp
  · rw [valV_neg (fun z => e (by have := Sum.inl.inj z; omega)), valV_nil]
    simp [e]⟩
end
theorem place_none : ∀ (n : Nat) (ks : List Nat), ks.length = n → ∀ (j : Nat), j ∉ ks → valV (mergeK [] (placeKv ks)) (Sum.inl (j : Int)) = none
  | 0, ks, hl, j, e => by
    rw [List.length_eq_zero_iff] at hl
    subst hl
    rfl
  | n + 1, ks, hl, j, e => by
    obtain ⟨ks, k, rfl⟩ : ∃ l k, ks = l ++ [k] := ⟨ks.dropLast, ks.getLast (by intro z; rw [z] at hl; simp at hl), (List.dropLast_concat_getLast _).symm⟩
    have hl' : ks.length = n := by simpa using hl
    rw [placeKv_snoc, mergeK_snoc, valV_put, if_neg (fun z => e (by have := Sum.inl.inj z; simp; omega))]
    exact place_none n ks hl' j (fun m => e (by simp [m]))
theorem place_pos {row : List Nat} (hn : row.Nodup) (k : Nat) : valV (mergeK [] (placeKv row)) (Sum.inl (k : Int)) = (if k ∈ row then some (V.int (row.idxOf k : Nat)) else none) := by
  by_cases h : k ∈ row
  · rw [if_pos h]
    exact place_val _ _ rfl hn _ _ (idx_get h)
  · rw [if_neg h]
    exact place_none _ _ rfl k h
def wayT : Option Nat → Tr
  | none => .non
  | some k => .int (k : Nat)
def waysT (ws : List (Option Nat)) : List Tr := ws.map wayT
theorem ats_ways {H : Hp} : ∀ ws : List (Option Nat), Tr.Ats H (waysT ws) (waysV ws) []
  | [] => by simp [waysT, waysV, Tr.Ats]
  | none :: ws => ats_cons0.mpr ⟨_, _, rfl, by simp [wayT, wayV, Tr.At], ats_ways ws⟩
  | some k :: ws => ats_cons0.mpr ⟨_, _, rfl, int_at, ats_ways ws⟩
theorem hs_ways : ∀ ws : List (Option Nat), Tr.hs (waysT ws) = 0
  | [] => by simp [waysT, Tr.hs]
  | none :: ws => by
    have := hs_ways ws
    simp only [waysT, List.map_cons, Tr.hs, wayT, Tr.h] at this ⊢
    omega
  | some k :: ws => by
    have := hs_ways ws
    simp only [waysT, List.map_cons, Tr.hs, wayT, Tr.h] at this ⊢
    omega
structure OutW (H : Hp) (v : V) (bs : List (Str × Int)) (ns : List Nd) (f : Nat) (ws : List (Option Nat)) (b n l : Addr) : Prop where
  ex : ∃ a g, v = .ref a ∧ H a = some (.tup [.ref g, .ref l]) ∧ GAt H (.ref g) bs ns f b n ∧ H l = some (.lst (waysV ws))
def outTW (bs : List (Str × Int)) (ns : List Nd) (f : Nat) (ws : List (Option Nat)) : List Tr := [.tup (graphT bs ns f), .lst (waysT ws)]
theorem OutW.tree {H : Hp} {v : V} {bs : List (Str × Int)} {ns : List Nd} {f : Nat} {ws : List (Option Nat)} {b n l : Addr} (o : OutW H v bs ns f ws b n l) : (Tr.tup (outTW bs ns f ws)).At H v [b, n, l] := by
  obtain ⟨a, g, rfl, h1, h2, h3⟩ := o.ex
  have h4 := h2.tree
  rw [outTW, Tr.At]
  refine ⟨a, _, rfl, h1, ?_⟩
  rw [Tr.Ats]
  refine ⟨_, _, [b, n], [l], rfl, rfl, h4, ?_⟩
  rw [Tr.Ats]
  refine ⟨_, _, [l], [], rfl, rfl, ?_, by simp [Tr.Ats]⟩
  rw [Tr.At]
  exact ⟨l, _, [], rfl, h3, ats_ways ws, rfl⟩
theorem OutW.mono {H H' : Hp} {v : V} {bs : List (Str × Int)} {ns : List Nd} {f : Nat} {ws : List (Option Nat)} {b n l : Addr} (o : OutW H v bs ns f ws b n l) (s : Same H H') : OutW H' v bs ns f ws b n l := by
  obtain ⟨a, g, h0, h1, h2, h3⟩ := o.ex
  exact ⟨a, g, h0, s _ _ h1, h2.same s, s _ _ h3⟩
def nxN (ns : List Nd) (k : Nat) : List Nat := (ns.getD k .back).nexts
def rowN (ns : List Nd) (f : Nat) : List Nat := bfs (nxN ns) (ns.length + 1) 0 [f]
def cutN (ns : List Nd) (f : Nat) : List Nd := (rowN ns f).map fun i => (ns.getD i .back).ren fun k => (rowN ns f).idxOf k
theorem nx_lt {ns : List Nd} {f : Nat} (g : Gok ns f) : ∀ k, k < ns.length → ∀ j ∈ nxN ns k, j < ns.length := fun k hk j hj => by
  unfold nxN at hj
  rw [List.getD_eq_getElem?_getD, List.getElem?_eq_getElem hk] at hj
  exact (g.at_ k ns[k] (List.getElem?_eq_getElem hk)).lt j hj
theorem bf_zero {ns : List Nd} {f : Nat} (g : Gok ns f) : Bf (nxN ns) ns.length 0 [f] := ⟨by simp, fun k hk => by rw [List.mem_singleton.mp hk]; exact g.first, Nat.zero_le _, fun i k hi => absurd hi (Nat.not_lt_zero _)⟩
theorem bf_row {ns : List Nd} {f : Nat} (g : Gok ns f) : Bf (nxN ns) ns.length (rowN ns f).length (rowN ns f) := Bf.end_ (nx_lt g) _ _ _ (bf_zero g) (by omega)
theorem Gok.cut_hs {bs : List (Str × Int)} {ns : List Nd} {f f' : Nat} (g : Gok ns f) (ws : List (Option Nat)) : Tr.hs (outTW bs (cutN ns f) f' ws) ≤ 20 := by
  have hd : ∀ i, (ns.getD i .back).tr.h ≤ 11 := fun i => by
    rw [List.getD_eq_getElem?_getD]
    cases e : ns[i]? with
    | none => simp [Nd.tr, Nd.its, Tr.h, Tr.hs]
    | some d => exact nd_h (g.at_ i d e)
  have h1 : ∀ (m : Nat → Nat) (ks : List Nat), Tr.hs ((ks.map fun i => (ns.getD i .back).ren m).map Nd.tr) ≤ 11 := fun m ks => by
    induction ks with
    | nil => simp [Tr.hs]
    | cons k ks ih =>
      have h2 := Nd.ren_h m (hd k)
      simp only [List.map_cons, Tr.hs] at ih ⊢
      omega
  have h2 := h1 (fun k => (rowN ns f).idxOf k) (rowN ns f)
  have h3 := boxes_h0 bs
  have h4 := hs_ways ws
  simp only [outTW, graphT, cutN, Tr.hs, Tr.h]
  omega
end L2
local macro_rules | `(tactic| walk_at "read") => `(tactic| simp only [L2.tSeq, L2.tAsg, L2.tOp, L2.tUn, L2.rU, L2.tVar, L2.tC, L2.rPlus, L2.rTimes, L2.rI, L2.rI0, L2.tRet, L2.tRetN, L2.gName, L2.tIfS, L2.tTest, L2.rEq, L2.rNe, L2.scal, L2.tNot, L2.tAnd, L2.tOr, L2.tAndV, L2.tOrV, L2.tNotV, L2.tIf, L2.tNext, L2.tDrop,
  L2.tCons, L2.tNil, L2.tCall, L2.tCB, L2.tChain, L2.rStr, L2.tFmt, L2.tJoin, L2.iRng1, L2.iRng2, L2.tFor_def, L2.iList, L2.iTup, L2.iStr, L2.tLst, L2.tTup, L2.tBM, L2.tBM0, L2.tyV, L2.rJoin, L2.rFind, L2.rUpper, L2.rIx, L2.rIxL, L2.rIxT, L2.rIxS, L2.tSl, L2.tNoPart, L2.tPart, L2.rSlL, L2.TruV, L2.LenV, L2.tLC_def, L2.cxOf_K, L2.cxC_K, L2.tNoIf, L2.cSt, L2.capV,
  L2.start, List.map_cons, List.map_nil, List.length_cons, List.length_nil, List.replicate, List.cons_append, List.nil_append, List.append_nil, List.getElem?_cons_zero, List.getElem?_cons_succ, List.set_cons_zero, List.set_cons_succ, Option.some.injEq, Nat.reduceSub, Nat.reduceAdd,
  L2.ex_self_and, L2.ex_some_and, L2.ex_int, L2.ex_str, L2.ex_bl, L2.ex_ref, exists_and_left, exists_eq_left', exists_eq_left, L2.V.int.injEq, L2.V.str.injEq, L2.V.bl.injEq, L2.V.ref.injEq, L2.V.ty.injEq, List.cons.injEq, and_true, true_and, reduceCtorEq, false_and, and_false, exists_false, or_false, false_or, exists_const, Bool.not_true, Bool.not_false, if_true, if_false, ite_true, ite_false, Bool.false_eq_true])
local macro_rules | `(tactic| walk_at "side") => `(tactic| first | exact ⟨by decide, by decide, by decide⟩ | exact ⟨by decide, by decide⟩ | exact .inr (.inr ⟨by decide, by decide⟩) | exact .inr (.inl ⟨by decide, by decide⟩) | decide | omega | exact L2.le_line (by simp only [List.length_cons, List.length_nil]; omega))
local macro_rules | `(tactic| walk_at "step") => `(tactic| first
  | with_reducible refine L2.i_seq ?_ | with_reducible refine L2.i_asg ?_ | ((with_reducible refine L2.i_name ?_); dsimp only [List.set_cons_zero, List.set_cons_succ]) | ((with_reducible refine' L2.i_var ?k ?_); (case k => rfl)) | with_reducible refine L2.i_c ?_ | with_reducible refine L2.i_op ?_
  | with_reducible refine L2.i_un ?_ | with_reducible refine L2.i_rU ?_ | with_reducible refine L2.i_rI0 ?_ | ((with_reducible refine L2.i_rI ?k ?_); (case k => walk_at "side")) | with_reducible refine L2.i_plusI ?_ | ((with_reducible refine L2.i_timesI ?k ?_); (case k => walk_at "side"))
  | with_reducible refine L2.i_eqI ?_ | with_reducible refine L2.i_eqS ?_ | with_reducible refine L2.i_eqB ?_ | with_reducible refine L2.i_neI ?_ | with_reducible refine L2.i_neS ?_ | with_reducible refine L2.i_neB ?_
  | with_reducible refine L2.i_test ?_ | with_reducible refine L2.i_bl ?_ | with_reducible refine L2.i_ifS ?_ | with_reducible refine L2.i_if ?_ | with_reducible refine L2.i_ret ?_ | with_reducible refine L2.i_retN ?_ | with_reducible refine L2.i_next ?_ | with_reducible refine L2.i_drop ?_ | with_reducible refine L2.i_break ?_ | with_reducible refine L2.i_cont ?_
  | with_reducible refine L2.i_cons ?_ | with_reducible refine L2.i_nil ?_ | with_reducible refine L2.i_cb ?_ | (with_reducible refine L2.i_call ?_) | with_reducible refine L2.i_lst ?_ | with_reducible refine L2.i_tup ?_ | with_reducible refine L2.i_not ?_ | with_reducible refine L2.i_noIf ?_ | with_reducible refine L2.i_and ?_ | with_reducible refine L2.i_or ?_
  | with_reducible refine L2.i_andV ?_ | with_reducible refine L2.i_orV ?_ | with_reducible refine L2.i_notV ?_ | with_reducible refine L2.i_strS ?_ | with_reducible refine L2.i_for ?_ | with_reducible refine L2.i_lc ?_ | with_reducible refine L2.i_rng1 ?_ | with_reducible refine L2.i_iList ?_ | with_reducible refine L2.i_iTup ?_ | with_reducible refine L2.i_iStr ?_ | with_reducible refine L2.i_iSeq ?_ | with_reducible refine L2.i_joinC ?_ | with_reducible refine L2.i_fmt ?_ | with_reducible refine L2.i_fmS ?_ | with_reducible refine L2.i_fmI ?_
  | with_reducible refine L2.i_rng ?_ | with_reducible refine L2.i_ref ?_ | with_reducible refine L2.i_sx ?_ | with_reducible refine L2.i_bm ?_ | with_reducible refine L2.i_bm0 ?_ | with_reducible refine L2.i_tyS ?_ | with_reducible refine L2.i_sl ?_ | with_reducible refine L2.i_nopart ?_ | with_reducible refine L2.i_part ?_ | with_reducible refine L2.i_ix1 ?_
  | with_reducible refine L2.i_itT ?_ | with_reducible refine L2.i_itF ?_ | with_reducible refine L2.i_itnT ?_ | with_reducible refine L2.i_itnF ?_ | with_reducible refine L2.i_truB ?_ | with_reducible refine L2.i_chain ?_ | with_reducible refine L2.i_intB ?_ | with_reducible refine L2.i_isB ?_ | with_reducible refine L2.i_gnil ?_ | with_reducible refine L2.i_gcons ?_ | with_reducible refine L2.i_find ?_ | with_reducible refine L2.i_isiS ?_ | with_reducible refine L2.i_isiB ?_ | with_reducible refine L2.i_isiI ?_ | with_reducible refine L2.i_isiIB ?_ | with_reducible refine L2.i_tru ?_ | with_reducible refine L2.i_intI ?_ | with_reducible refine L2.i_inS ?_ | with_reducible refine L2.i_isN ?_ | with_reducible refine L2.i_notN ?_ | with_reducible refine L2.i_enum ?_ | with_reducible refine L2.i_lref ?_ | with_reducible refine L2.i_min2 ?_ | with_reducible refine L2.i_dget ?_ | with_reducible refine L2.i_gsub ?_ | with_reducible refine L2.i_tB ?_ | with_reducible refine L2.i_din ?_ | with_reducible refine L2.i_dnotin ?_ | with_reducible refine L2.i_dput ?_ | with_reducible refine L2.i_dnew ?_ | with_reducible refine L2.i_dget1 ?_
  | ((with_reducible refine L2.i_szA ?k ?_); (case k => walk_at "side")) | ((with_reducible refine L2.i_rgA ?k ?l ?_); (case k => walk_at "side"); (case l => walk_at "side")))
local macro_rules | `(tactic| walk_at "run") => `(tactic| (repeat walk_at "step"))
local macro_rules | `(tactic| walk_at "go") => `(tactic| (simp only [L2.start, List.map_cons, List.map_nil, List.length_cons, List.length_nil, List.replicate, List.cons_append, List.nil_append, Nat.reduceSub, Nat.reduceAdd, L2.nox_K, L2.wish_K, L2.cxOf_K, L2.cxC_K]; walk_at "run"))
namespace K43
open PySem L2
def top (i : Nat) : Stmt := PySem.Challenge.pw_callmill_k43_nodes_that_are_come_to.main.body.getD i (.Pass ⟨0, 0, 0, 0⟩)
abbrev s_next_ones : Stmt := top 1
abbrev s_renumbered : Stmt := top 2
abbrev s_cut : Stmt := top 4
abbrev s_found_from : Stmt := top 5
abbrev s_law_cell_at : Stmt := top 7
abbrev s_law_expr : Stmt := top 8
abbrev s_law_cond : Stmt := top 9
abbrev s_law_wait : Stmt := top 10
abbrev s_law_node : Stmt := top 11
abbrev s_law_graph : Stmt := top 12
abbrev s_law_nexts : Stmt := top 13
abbrev s_law_new : Stmt := top 14
abbrev s_law_due : Stmt := top 15
abbrev s_law : Stmt := top 16
theorem sc_next_ones : FnScope ["node", "kind"] ["node"] (defScope s_next_ones) := ⟨rfl, rfl, rfl, by decide +kernel, rfl, by decide +kernel, by decide +kernel⟩
theorem sc_renumbered : FnScope ["node", "numbers", "kind"] ["node", "numbers"] (defScope s_renumbered) := ⟨rfl, rfl, rfl, by decide +kernel, rfl, by decide +kernel, by decide +kernel⟩
theorem sc_cut : FnScope ["graph", "nodes", "found", "numbers", "stands_for"] ["graph"] (defScope s_cut) := ⟨rfl, rfl, rfl, by decide +kernel, rfl, by decide +kernel, by decide +kernel⟩
theorem sc_found_from : FnScope ["ways", "first", "found", "known", "place", "thing"] ["ways", "first"] (defScope s_found_from) := ⟨rfl, rfl, rfl, by decide +kernel, rfl, by decide +kernel, by decide +kernel⟩
theorem sc_law_cell_at : FnScope ["script", "k"] ["script", "k"] (defScope s_law_cell_at) := ⟨rfl, rfl, rfl, by decide +kernel, rfl, by decide +kernel, by decide +kernel⟩
theorem sc_law_expr : FnScope ["d", "one", "word", "part"] ["d"] (defScope s_law_expr) := ⟨rfl, rfl, rfl, by decide +kernel, rfl, by decide +kernel, by decide +kernel⟩
theorem sc_law_cond : FnScope ["d", "one", "other"] ["d"] (defScope s_law_cond) := ⟨rfl, rfl, rfl, by decide +kernel, rfl, by decide +kernel, by decide +kernel⟩
theorem sc_law_wait : FnScope ["d", "number", "low", "high", "patterns", "branches", "rest", "k", "pattern"] ["d", "number", "low", "high"] (defScope s_law_wait) := ⟨rfl, rfl, rfl, by decide +kernel, rfl, by decide +kernel, by decide +kernel⟩
theorem sc_law_node : FnScope ["cell", "number", "low", "high", "deep", "kind", "d", "to"] ["cell", "number", "low", "high", "deep"] (defScope s_law_node) := ⟨rfl, rfl, rfl, by decide +kernel, rfl, by decide +kernel, by decide +kernel⟩
theorem sc_law_graph : FnScope ["script", "cell", "ends", "nodes", "deep", "number", "one"] ["script"] (defScope s_law_graph) := ⟨rfl, rfl, rfl, by decide +kernel, rfl, by decide +kernel, by decide +kernel⟩
theorem sc_law_nexts : FnScope ["node"] ["node"] (defScope s_law_nexts) := ⟨rfl, rfl, rfl, by decide +kernel, rfl, by decide +kernel, by decide +kernel⟩
theorem sc_law_new : FnScope ["node", "where"] ["node", "where"] (defScope s_law_new) := ⟨rfl, rfl, rfl, by decide +kernel, rfl, by decide +kernel, by decide +kernel⟩
theorem sc_law_due : FnScope ["graph", "boxes", "nodes", "first", "row", "done", "to", "where", "place"] ["graph"] (defScope s_law_due) := ⟨rfl, rfl, rfl, by decide +kernel, rfl, by decide +kernel, by decide +kernel⟩
theorem sc_law : FnScope ["script", "graph", "handed", "found"] ["script"] (defScope s_law) := ⟨rfl, rfl, rfl, by decide +kernel, rfl, by decide +kernel, by decide +kernel⟩
structure Adr where
  a_next_ones : Addr
  fd_next_ones : FuncData
  a_renumbered : Addr
  fd_renumbered : FuncData
  a_cut : Addr
  fd_cut : FuncData
  a_found_from : Addr
  fd_found_from : FuncData
  a__law_cell_at : Addr
  fd__law_cell_at : FuncData
  a__law_expr : Addr
  fd__law_expr : FuncData
  a__law_cond : Addr
  fd__law_cond : FuncData
  a__law_wait : Addr
  fd__law_wait : FuncData
  a__law_node : Addr
  fd__law_node : FuncData
  a__law_graph : Addr
  fd__law_graph : FuncData
  a__law_nexts : Addr
  fd__law_nexts : FuncData
  a__law_new : Addr
  fd__law_new : FuncData
  a__law_due : Addr
  fd__law_due : FuncData
  a_law : Addr
  fd_law : FuncData
structure Txt (K : PySem.W.Frag) (mg : Str → Option Value) (t : Adr) : Prop where
  F_next_ones : Fun K "next_ones" "next_ones" s_next_ones t.a_next_ones t.fd_next_ones
  m_next_ones : mg "next_ones" = some (.ref t.a_next_ones)
  b_next_ones : Binds K t.fd_next_ones ["node"] []
  F_renumbered : Fun K "renumbered" "renumbered" s_renumbered t.a_renumbered t.fd_renumbered
  m_renumbered : mg "renumbered" = some (.ref t.a_renumbered)
  b_renumbered : Binds K t.fd_renumbered ["node", "numbers"] []
  F_cut : Fun K "cut" "cut" s_cut t.a_cut t.fd_cut
  m_cut : mg "cut" = some (.ref t.a_cut)
  b_cut : Binds K t.fd_cut ["graph"] []
  F_found_from : Fun K "found_from" "found_from" s_found_from t.a_found_from t.fd_found_from
  m_found_from : mg "found_from" = some (.ref t.a_found_from)
  b_found_from : Binds K t.fd_found_from ["ways", "first"] []
  F__law_cell_at : Fun K "_law_cell_at" "_law_cell_at" s_law_cell_at t.a__law_cell_at t.fd__law_cell_at
  m__law_cell_at : mg "_law_cell_at" = some (.ref t.a__law_cell_at)
  b__law_cell_at : Binds K t.fd__law_cell_at ["script", "k"] []
  F__law_expr : Fun K "_law_expr" "_law_expr" s_law_expr t.a__law_expr t.fd__law_expr
  m__law_expr : mg "_law_expr" = some (.ref t.a__law_expr)
  b__law_expr : Binds K t.fd__law_expr ["d"] []
  F__law_cond : Fun K "_law_cond" "_law_cond" s_law_cond t.a__law_cond t.fd__law_cond
  m__law_cond : mg "_law_cond" = some (.ref t.a__law_cond)
  b__law_cond : Binds K t.fd__law_cond ["d"] []
  F__law_wait : Fun K "_law_wait" "_law_wait" s_law_wait t.a__law_wait t.fd__law_wait
  m__law_wait : mg "_law_wait" = some (.ref t.a__law_wait)
  b__law_wait : Binds K t.fd__law_wait ["d", "number", "low", "high"] []
  F__law_node : Fun K "_law_node" "_law_node" s_law_node t.a__law_node t.fd__law_node
  m__law_node : mg "_law_node" = some (.ref t.a__law_node)
  b__law_node : Binds K t.fd__law_node ["cell", "number", "low", "high", "deep"] []
  F__law_graph : Fun K "_law_graph" "_law_graph" s_law_graph t.a__law_graph t.fd__law_graph
  m__law_graph : mg "_law_graph" = some (.ref t.a__law_graph)
  b__law_graph : Binds K t.fd__law_graph ["script"] []
  F__law_nexts : Fun K "_law_nexts" "_law_nexts" s_law_nexts t.a__law_nexts t.fd__law_nexts
  m__law_nexts : mg "_law_nexts" = some (.ref t.a__law_nexts)
  b__law_nexts : Binds K t.fd__law_nexts ["node"] []
  F__law_new : Fun K "_law_new" "_law_new" s_law_new t.a__law_new t.fd__law_new
  m__law_new : mg "_law_new" = some (.ref t.a__law_new)
  b__law_new : Binds K t.fd__law_new ["node", "where"] []
  F__law_due : Fun K "_law_due" "_law_due" s_law_due t.a__law_due t.fd__law_due
  m__law_due : mg "_law_due" = some (.ref t.a__law_due)
  b__law_due : Binds K t.fd__law_due ["graph"] []
  F_law : Fun K "law" "law" s_law t.a_law t.fd_law
  m_law : mg "law" = some (.ref t.a_law)
  b_law : Binds K t.fd_law ["script"] []
  z_dict : mg "dict" = none
  z_enumerate : mg "enumerate" = none
  z_isinstance : mg "isinstance" = none
  z_len : mg "len" = none
  z_list : mg "list" = none
  z_min : mg "min" = none
  z_range : mg "range" = none
  z_tuple : mg "tuple" = none
section
variable {P : Program} {w : World} {K : PySem.W.Frag} {mg : Str → Option Value} {base : Heap} {t : Adr}
def sp_ren (K : PySem.W.Frag) : Sp := fun vs H Q _ => ∃ (v : V) (l : Addr) (nd : Nd) (us : List V) (f : Nat → Nat), vs = [v, .ref l] ∧ nd.tr.At H v [] ∧ H l = some (.lst us) ∧ (∀ k ∈ nd.nexts, atI us (k : Nat) = some (.int (f k : Nat))) ∧ nd.nexts.length ≤ 100 ∧ ∀ v' H', Same H H' → (nd.ren f).tr.At H' v' [] → Q v' H'
def sp_renD (K : PySem.W.Frag) : Sp := fun vs H Q _ => ∃ (v : V) (l : Addr) (nd : Nd) (kvs : List (Key × V)) (f : Nat → Nat), vs = [v, .ref l] ∧ nd.tr.At H v [] ∧ H l = some (.dK kvs) ∧ (∀ k ∈ nd.nexts, valV kvs (Sum.inl (k : Int)) = some (.int (f k : Nat))) ∧ nd.nexts.length ≤ 100 ∧ ∀ v' H', Same H H' → (nd.ren f).tr.At H' v' [] → Q v' H'
theorem ren_one {H' : Hp} {nd : Nd} {k : Str} {r : List Tr} {n : Nat} {us : List V} {p : Addr} {m : Nat → Nat} (ho : nd.one? = some (k, r, n)) (hu : Tr.Ats H' r us []) (e : H' p = some (.tup ((V.str k :: us) ++ [.int (m n : Nat)]))) : (nd.ren m).tr.At H' (.ref p) [] := by
  unfold Nd.tr
  rw [(Nd.one_its ho).2.1]
  exact at_tup0.mpr ⟨p, _, rfl, e, ats_cons0.mpr ⟨_, us ++ [.int (m n : Nat)], rfl, str_at0, ats_app0.mpr ⟨us, _, rfl, hu, ats_cons0.mpr ⟨_, _, rfl, int_at, ats_nil0.mpr rfl⟩⟩⟩⟩
theorem br_at {H : Hp} {x : Tr} {v : V} {bs : List (List Pt × Nat)} {i : Nat} (e : (bs.map brT)[i]? = some x) (h : x.At H v []) : ∃ p u b, v = .ref p ∧ H p = some (.tup [u, .int (b.2 : Nat)]) ∧ bs[i]? = some b ∧ (Tr.tup (b.1.map Pt.tr)).At H u [] := by
  rw [List.getElem?_map] at e
  cases eb : bs[i]? with
  | none => rw [eb] at e; cases e
  | some b =>
    rw [eb] at e
    obtain rfl : brT b = x := Option.some.inj e
    obtain ⟨p, vs, rfl, e2, h⟩ := at_tup0.mp h
    obtain ⟨v1, w1, rfl, h1, h⟩ := ats_cons0.mp h
    obtain ⟨v2, w2, rfl, h2, h⟩ := ats_cons0.mp h
    obtain rfl := ats_nil0.mp h
    obtain rfl := at_int0.mp h2
    exact ⟨p, v1, b, rfl, e2, rfl, h1⟩
theorem ats_get0 {H : Hp} {xs : List Tr} {vs : List V} (h : Tr.Ats H xs vs []) {i : Nat} {v : V} (e : vs[i]? = some v) : ∃ x, xs[i]? = some x ∧ x.At H v [] := by
  obtain ⟨x, f, h1, h2, h3⟩ := h.get i v e
  have : f = [] := List.eq_nil_iff_forall_not_mem.mpr fun a m => by simpa using h3 a m
  subst this
  exact ⟨x, h1, h2⟩
theorem ats_snoc0 {H : Hp} {xs : List Tr} {vs : List V} {x : Tr} {v : V} (h : Tr.Ats H xs vs []) (h2 : x.At H v []) : Tr.Ats H (xs ++ [x]) (vs ++ [v]) [] := h.snoc h2
theorem dgI {H : Hp} {a : Addr} {kvs : List (Key × V)} {k : Nat} {v : V} (e : H a = some (.dK kvs)) (hv : valV kvs (Sum.inl (k : Int)) = some v) : DGet H a (.int (k : Nat)) (some v) := .inl ⟨kvs, Sum.inl (k : Int), .inl e, rfl, hv.symm⟩
def sp_nexts (K : PySem.W.Frag) : Sp := fun vs H Q _ => ∃ (v : V) (nd : Nd), vs = [v] ∧ nd.tr.At H v [] ∧ nd.nexts.length ≤ 100 ∧ ∀ l H', H l = none → Same H H' → H' l = some (.lst (natsV nd.nexts)) → Q (.ref l) H'
theorem ok_next_ones (T : Txt K mg t) : FnOk P w K mg base CX0 1 t.a_next_ones t.fd_next_ones ["node"] (sp_nexts K) := by
  refine T.F_next_ones.ok sc_next_ones (fun vs H Q E h => ?_) (fun cdv A outer s H vs Q E hr h => ?_)
  · obtain ⟨v, nd, rfl, _⟩ := h
    rfl
  · obtain ⟨v, nd, rfl, hv, hz, q⟩ := h
    refine ⟨_, (@pss_cons _ _ _ _ _ (@ps_set _ _ 1 _ _ _ _ sc_next_ones.nd rfl (by first | exact Or.inl rfl | exact Or.inr rfl) (@pe_ix _ _ _ _ _ _ _ (kix_tup K) (pv 0) (@pe_int _ _ _ _) (fun _ _ => rfl)) (by rfl) (by first | exact Or.inl rfl | exact Or.inr rfl))
      (@pss_cons _ _ _ _ _ (@ps_if _ _ _ _ _ _ _ _ (@pt_cmpR _ _ _ _ _ _ _ _ op_eq (pv 1) (@pe_str _ _ _ _) (nomark _)) (@pss_one _ _ _ (@ps_ret _ _ _ _ (@pe_op _ _ _ _ _ _ _ _ op_plus (pe_lc (Nt := ["pattern", "way"]) (Nf := []) (caps := []) rfl (comp_ok (sc := defScope s_next_ones) rfl rfl (by decide +kernel) (by decide +kernel) (by decide +kernel) rfl (by decide +kernel)) (kpi_tup K (@pe_ix _ _ _ _ _ _ _ (kix_tup K) (pv 0) (@pe_int _ _ _ _) (fun _ _ => rfl))) (fun _ _ _ _ _ => (kpg_tup K (n := 2) rfl (pgs_cons (pg_name (i := 0) (show (["pattern", "way"] : List Str).Nodup by decide +kernel) rfl (by first | exact Or.inl rfl | exact Or.inr rfl)) (pgs_cons (pg_name (i := 1) (show (["pattern", "way"] : List Str).Nodup by decide +kernel) rfl (by first | exact Or.inl rfl | exact Or.inr rfl)) (@pgs_nil _))))) (fun _ _ _ _ _ => (@pts_nil _)) (fun _ _ _ _ _ => (pv 1))) (@pe_lstN _ _ _ _ (@pa_cons _ _ _ _ _ (@pe_ix _ _ _ _ _ _ _ (kix_tup K) (pv 0) (@pe_int _ _ _ _) (fun _ _ => rfl)) (@pa_nil _) (by rfl)))))) (@pss_nil _))
      (@pss_cons _ _ _ _ _ (@ps_if _ _ _ _ _ _ _ _ (@pt_cmpR _ _ _ _ _ _ _ _ op_eq (pv 1) (@pe_str _ _ _ _) (nomark _)) (@pss_one _ _ _ (@ps_ret _ _ _ _ (@pe_lstN _ _ _ _ (@pa_cons _ _ _ _ _ (@pe_ix _ _ _ _ _ _ _ (kix_tup K) (pv 0) (@pe_int _ _ _ _) (fun _ _ => rfl)) (@pa_cons _ _ _ _ _ (@pe_ix _ _ _ _ _ _ _ (kix_tup K) (pv 0) (@pe_int _ _ _ _) (fun _ _ => rfl)) (@pa_nil _) (by rfl)) (by rfl))))) (@pss_nil _))
      (@pss_cons _ _ _ _ _ (@ps_if _ _ _ _ _ _ _ _ (@pt_cmpR _ _ _ _ _ _ _ _ op_eq (pv 1) (@pe_str _ _ _ _) (nomark _)) (@pss_one _ _ _ (@ps_ret _ _ _ _ (@pe_lstN _ _ _ _ (@pa_cons _ _ _ _ _ (@pe_ix _ _ _ _ _ _ _ (kix_tup K) (pv 0) (@pe_int _ _ _ _) (fun _ _ => rfl)) (@pa_cons _ _ _ _ _ (@pe_ix _ _ _ _ _ _ _ (kix_tup K) (pv 0) (@pe_int _ _ _ _) (fun _ _ => rfl)) (@pa_nil _) (by rfl)) (by rfl))))) (@pss_nil _))
      (@pss_cons _ _ _ _ _ (@ps_if _ _ _ _ _ _ _ _ (@PW.pt _ _ _ (@pw_or _ _ _ _ _ _ _ (@pt_cmpR _ _ _ _ _ _ _ _ op_eq (pv 1) (@pe_str _ _ _ _) (nomark _)) (@pw_or1 _ _ _ _ (@pt_cmpR _ _ _ _ _ _ _ _ op_eq (pv 1) (@pe_str _ _ _ _) (nomark _))))) (@pss_one _ _ _ (@ps_ret _ _ _ _ (@pe_lstN _ _ _ _ (@pa_nil _)))) (@pss_nil _))
      (@pss_one _ _ _ (@ps_ret _ _ _ _ (@pe_lstN _ _ _ _ (@pa_cons _ _ _ _ _ (@pe_ix _ _ _ _ _ _ _ (kix_tup K) (pv 0) (@pe_un _ _ _ _ _ _ un_neg (@pe_int _ _ _ _)) (fun _ _ => rfl)) (@pa_nil _) (by rfl)))))))))), ?_⟩
    cases ho : nd.one? with
    | some p =>
      obtain ⟨k, r, n⟩ := p
      obtain ⟨_, e2, e3, n1, n2, n3, n4, n5, _⟩ := Nd.one_its ho
      obtain ⟨a, us, rfl, ha, hu, hul⟩ := Nd.one_at ho hv
      rw [e3] at q
      walk_at "go"
      refine i_ixT (SqT.of ha) (atI_nat (j := 0) rfl) ?_
      walk_at "run"
      refine i_itDF n1 ?_
      walk_at "run"
      refine i_itDF n2 ?_
      walk_at "run"
      refine i_itDF n3 ?_
      walk_at "run"
      refine i_itDF n4 ?_
      walk_at "run"
      refine i_itDF n5 ?_
      walk_at "run"
      refine i_ixT (SqT.of ha) (atI_last _ _) ?_
      walk_at "run"
      intro p1 H1 f1 s1 e1
      exact q p1 H1 f1 s1 e1
    | none =>
      cases nd with
      | say w m => cases ho
      | hand w m k => cases ho
      | put b e m => cases ho
      | test c m n =>
        obtain ⟨a, u, rfl, ha, hc⟩ := Nd.test_at hv
        walk_at "go"
        refine i_ixT (SqT.of ha) (atI_nat (j := 0) rfl) ?_
        walk_at "run"
        refine i_itDF (by decide +kernel) ?_
        walk_at "run"
        refine i_itDT rfl ?_
        walk_at "run"
        refine i_ixT (SqT.of ha) (atI_nat (j := 2) rfl) ?_
        walk_at "run"
        refine i_ixT (SqT.of ha) (atI_nat (j := 3) rfl) ?_
        walk_at "run"
        intro p1 H1 f1 s1 e1
        exact q p1 H1 f1 s1 e1
      | call m n =>
        obtain ⟨a, rfl, ha⟩ := Nd.call_at hv
        walk_at "go"
        refine i_ixT (SqT.of ha) (atI_nat (j := 0) rfl) ?_
        walk_at "run"
        refine i_itDF (by decide +kernel) ?_
        walk_at "run"
        refine i_itDF (by decide +kernel) ?_
        walk_at "run"
        refine i_itDT rfl ?_
        walk_at "run"
        refine i_ixT (SqT.of ha) (atI_nat (j := 1) rfl) ?_
        walk_at "run"
        refine i_ixT (SqT.of ha) (atI_nat (j := 2) rfl) ?_
        walk_at "run"
        intro p1 H1 f1 s1 e1
        exact q p1 H1 f1 s1 e1
      | back =>
        obtain ⟨a, rfl, ha⟩ := Nd.back_at hv
        walk_at "go"
        refine i_ixT (SqT.of ha) (atI_nat (j := 0) rfl) ?_
        walk_at "run"
        refine i_itDF (by decide +kernel) ?_
        walk_at "run"
        refine i_itDF (by decide +kernel) ?_
        walk_at "run"
        refine i_itDF (by decide +kernel) ?_
        walk_at "run"
        refine i_itDT rfl ?_
        walk_at "run"
        intro p1 H1 f1 s1 e1
        exact q p1 H1 f1 s1 e1
      | stop =>
        obtain ⟨a, rfl, ha⟩ := Nd.stop_at hv
        walk_at "go"
        refine i_ixT (SqT.of ha) (atI_nat (j := 0) rfl) ?_
        walk_at "run"
        refine i_itDF (by decide +kernel) ?_
        walk_at "run"
        refine i_itDF (by decide +kernel) ?_
        walk_at "run"
        refine i_itDF (by decide +kernel) ?_
        walk_at "run"
        refine i_itDF (by decide +kernel) ?_
        walk_at "run"
        refine i_itDT rfl ?_
        walk_at "run"
        intro p1 H1 f1 s1 e1
        exact q p1 H1 f1 s1 e1
      | wait wl bs n =>
        obtain ⟨a, b, us, rfl, ha, hb, hu⟩ := Nd.wait_at hv
        have hul := hu.len
        simp only [Nd.nexts, List.length_append, List.length_map, List.length_cons, List.length_nil] at hz hul
        walk_at "go"
        refine i_ixT (SqT.of ha) (atI_nat (j := 0) rfl) ?_
        walk_at "run"
        refine i_itDT rfl ?_
        walk_at "run"
        refine i_ixT (SqT.of ha) (atI_nat (j := 2) rfl) ?_
        walk_at "run"
        refine ⟨⟨_, SqT.of hb⟩, cc_pairsT (xs := us) (le_line (by omega)) (fun i acc H' => H' = H ∧ i ≤ bs.length ∧ acc = natsV ((bs.take i).map (·.2))) ⟨rfl, Nat.zero_le _, rfl⟩ (fun i acc H' ⟨e0, hi, e⟩ => ⟨?_, e0 ▸ SqT.of hb⟩) ?_ ?_⟩
        · rw [e, natsV_len, List.length_map, List.length_take]
          omega
        · rintro i x acc H' hx ⟨rfl, hi, rfl⟩
          obtain ⟨t, ht, hxt⟩ := ats_get0 hu hx
          obtain ⟨p, u, bb, rfl, hp, hbb, hpu⟩ := br_at ht hxt
          have hi' : i < bs.length := (List.getElem?_eq_some_iff.mp hbb).1
          refine ⟨p, u, .int (bb.2 : Nat), rfl, SqT.of hp, ?_⟩
          walk_at "run"
          refine ⟨rfl, hi', ?_⟩
          rw [natsV_snoc, List.take_add_one, hbb, List.map_append]
          rfl
        · rintro acc H' ⟨rfl, _, rfl⟩ p1 H1 f1 s1 e1
          rw [hul, List.take_length] at e1
          walk_at "run"
          refine i_ixT (SqT.of (s1 _ _ ha)) (atI_nat (j := 3) rfl) ?_
          walk_at "run"
          intro p2 H2 f2 s2 e2
          walk_at "run"
          refine i_plusL (s2 _ _ e1) e2 (le_line (by rw [natsV_len, List.length_map]; simp; omega)) ?_
          intro p3 H3 f3 s3 e3
          refine q p3 H3 ((s1.trans s2).free f3) (s1.trans (s2.trans s3)) ?_
          rw [e3]
          simp [natsV, Nd.nexts]
theorem ok_law_nexts (T : Txt K mg t) : FnOk P w K mg base CX0 1 t.a__law_nexts t.fd__law_nexts ["node"] (sp_nexts K) := by
  refine T.F__law_nexts.ok sc_law_nexts (fun vs H Q E h => ?_) (fun cdv A outer s H vs Q E hr h => ?_)
  · obtain ⟨v, nd, rfl, _⟩ := h
    rfl
  · obtain ⟨v, nd, rfl, hv, hz, q⟩ := h
    refine ⟨_, (@pss_cons _ _ _ _ _ (@ps_if _ _ _ _ _ _ _ _ (@pt_cmpR _ _ _ _ _ _ _ _ op_eq (@pe_ix _ _ _ _ _ _ _ (kix_tup K) (pv 0) (@pe_int _ _ _ _) (fun _ _ => rfl)) (@pe_str _ _ _ _) (nomark _)) (@pss_one _ _ _ (@ps_ret _ _ _ _ (@pe_op _ _ _ _ _ _ _ _ op_plus (pe_lc (Nt := ["pattern", "to"]) (Nf := []) (caps := []) rfl (comp_ok (sc := defScope s_law_nexts) rfl rfl (by decide +kernel) (by decide +kernel) (by decide +kernel) rfl (by decide +kernel)) (kpi_tup K (@pe_ix _ _ _ _ _ _ _ (kix_tup K) (pv 0) (@pe_int _ _ _ _) (fun _ _ => rfl))) (fun _ _ _ _ _ => (kpg_tup K (n := 2) rfl (pgs_cons (pg_name (i := 0) (show (["pattern", "to"] : List Str).Nodup by decide +kernel) rfl (by first | exact Or.inl rfl | exact Or.inr rfl)) (pgs_cons (pg_name (i := 1) (show (["pattern", "to"] : List Str).Nodup by decide +kernel) rfl (by first | exact Or.inl rfl | exact Or.inr rfl)) (@pgs_nil _))))) (fun _ _ _ _ _ => (@pts_nil _)) (fun _ _ _ _ _ => (pv 1))) (@pe_lstN _ _ _ _ (@pa_cons _ _ _ _ _ (@pe_ix _ _ _ _ _ _ _ (kix_tup K) (pv 0) (@pe_int _ _ _ _) (fun _ _ => rfl)) (@pa_nil _) (by rfl)))))) (@pss_nil _))
      (@pss_cons _ _ _ _ _ (@ps_if _ _ _ _ _ _ _ _ (@pt_cmpR _ _ _ _ _ _ _ _ op_eq (@pe_ix _ _ _ _ _ _ _ (kix_tup K) (pv 0) (@pe_int _ _ _ _) (fun _ _ => rfl)) (@pe_str _ _ _ _) (nomark _)) (@pss_one _ _ _ (@ps_ret _ _ _ _ (@pe_lstN _ _ _ _ (@pa_cons _ _ _ _ _ (@pe_ix _ _ _ _ _ _ _ (kix_tup K) (pv 0) (@pe_int _ _ _ _) (fun _ _ => rfl)) (@pa_cons _ _ _ _ _ (@pe_ix _ _ _ _ _ _ _ (kix_tup K) (pv 0) (@pe_int _ _ _ _) (fun _ _ => rfl)) (@pa_nil _) (by rfl)) (by rfl))))) (@pss_nil _))
      (@pss_cons _ _ _ _ _ (@ps_if _ _ _ _ _ _ _ _ (@pt_cmpR _ _ _ _ _ _ _ _ op_eq (@pe_ix _ _ _ _ _ _ _ (kix_tup K) (pv 0) (@pe_int _ _ _ _) (fun _ _ => rfl)) (@pe_str _ _ _ _) (nomark _)) (@pss_one _ _ _ (@ps_ret _ _ _ _ (@pe_lstN _ _ _ _ (@pa_cons _ _ _ _ _ (@pe_ix _ _ _ _ _ _ _ (kix_tup K) (pv 0) (@pe_int _ _ _ _) (fun _ _ => rfl)) (@pa_cons _ _ _ _ _ (@pe_ix _ _ _ _ _ _ _ (kix_tup K) (pv 0) (@pe_int _ _ _ _) (fun _ _ => rfl)) (@pa_nil _) (by rfl)) (by rfl))))) (@pss_nil _))
      (@pss_cons _ _ _ _ _ (@ps_if _ _ _ _ _ _ _ _ (@PW.pt _ _ _ (@pw_or _ _ _ _ _ _ _ (@pt_cmpR _ _ _ _ _ _ _ _ op_eq (@pe_ix _ _ _ _ _ _ _ (kix_tup K) (pv 0) (@pe_int _ _ _ _) (fun _ _ => rfl)) (@pe_str _ _ _ _) (nomark _)) (@pw_or1 _ _ _ _ (@pt_cmpR _ _ _ _ _ _ _ _ op_eq (@pe_ix _ _ _ _ _ _ _ (kix_tup K) (pv 0) (@pe_int _ _ _ _) (fun _ _ => rfl)) (@pe_str _ _ _ _) (nomark _))))) (@pss_one _ _ _ (@ps_ret _ _ _ _ (@pe_lstN _ _ _ _ (@pa_nil _)))) (@pss_nil _))
      (@pss_one _ _ _ (@ps_ret _ _ _ _ (@pe_lstN _ _ _ _ (@pa_cons _ _ _ _ _ (@pe_ix _ _ _ _ _ _ _ (kix_tup K) (pv 0) (@pe_un _ _ _ _ _ _ un_neg (@pe_int _ _ _ _)) (fun _ _ => rfl)) (@pa_nil _) (by rfl))))))))), ?_⟩
    cases ho : nd.one? with
    | some p =>
      obtain ⟨k, r, n⟩ := p
      obtain ⟨_, e2, e3, n1, n2, n3, n4, n5, _⟩ := Nd.one_its ho
      obtain ⟨a, us, rfl, ha, hu, hul⟩ := Nd.one_at ho hv
      rw [e3] at q
      walk_at "go"
      refine i_ixT (SqT.of ha) (atI_nat (j := 0) rfl) ?_
      walk_at "run"
      refine i_itDF n1 ?_
      walk_at "run"
      refine i_ixT (SqT.of ha) (atI_nat (j := 0) rfl) ?_
      walk_at "run"
      refine i_itDF n2 ?_
      walk_at "run"
      refine i_ixT (SqT.of ha) (atI_nat (j := 0) rfl) ?_
      walk_at "run"
      refine i_itDF n3 ?_
      walk_at "run"
      refine i_ixT (SqT.of ha) (atI_nat (j := 0) rfl) ?_
      walk_at "run"
      refine i_itDF n4 ?_
      walk_at "run"
      refine i_ixT (SqT.of ha) (atI_nat (j := 0) rfl) ?_
      walk_at "run"
      refine i_itDF n5 ?_
      walk_at "run"
      refine i_ixT (SqT.of ha) (atI_last _ _) ?_
      walk_at "run"
      intro p1 H1 f1 s1 e1
      exact q p1 H1 f1 s1 e1
    | none =>
      cases nd with
      | say w m => cases ho
      | hand w m k => cases ho
      | put b e m => cases ho
      | test c m n =>
        obtain ⟨a, u, rfl, ha, hc⟩ := Nd.test_at hv
        walk_at "go"
        refine i_ixT (SqT.of ha) (atI_nat (j := 0) rfl) ?_
        walk_at "run"
        refine i_itDF (by decide +kernel) ?_
        walk_at "run"
        refine i_ixT (SqT.of ha) (atI_nat (j := 0) rfl) ?_
        walk_at "run"
        refine i_itDT rfl ?_
        walk_at "run"
        refine i_ixT (SqT.of ha) (atI_nat (j := 2) rfl) ?_
        walk_at "run"
        refine i_ixT (SqT.of ha) (atI_nat (j := 3) rfl) ?_
        walk_at "run"
        intro p1 H1 f1 s1 e1
        exact q p1 H1 f1 s1 e1
      | call m n =>
        obtain ⟨a, rfl, ha⟩ := Nd.call_at hv
        walk_at "go"
        refine i_ixT (SqT.of ha) (atI_nat (j := 0) rfl) ?_
        walk_at "run"
        refine i_itDF (by decide +kernel) ?_
        walk_at "run"
        refine i_ixT (SqT.of ha) (atI_nat (j := 0) rfl) ?_
        walk_at "run"
        refine i_itDF (by decide +kernel) ?_
        walk_at "run"
        refine i_ixT (SqT.of ha) (atI_nat (j := 0) rfl) ?_
        walk_at "run"
        refine i_itDT rfl ?_
        walk_at "run"
        refine i_ixT (SqT.of ha) (atI_nat (j := 1) rfl) ?_
        walk_at "run"
        refine i_ixT (SqT.of ha) (atI_nat (j := 2) rfl) ?_
        walk_at "run"
        intro p1 H1 f1 s1 e1
        exact q p1 H1 f1 s1 e1
      | back =>
        obtain ⟨a, rfl, ha⟩ := Nd.back_at hv
        walk_at "go"
        refine i_ixT (SqT.of ha) (atI_nat (j := 0) rfl) ?_
        walk_at "run"
        refine i_itDF (by decide +kernel) ?_
        walk_at "run"
        refine i_ixT (SqT.of ha) (atI_nat (j := 0) rfl) ?_
        walk_at "run"
        refine i_itDF (by decide +kernel) ?_
        walk_at "run"
        refine i_ixT (SqT.of ha) (atI_nat (j := 0) rfl) ?_
        walk_at "run"
        refine i_itDF (by decide +kernel) ?_
        walk_at "run"
        refine i_ixT (SqT.of ha) (atI_nat (j := 0) rfl) ?_
        walk_at "run"
        refine i_itDT rfl ?_
        walk_at "run"
        intro p1 H1 f1 s1 e1
        exact q p1 H1 f1 s1 e1
      | stop =>
        obtain ⟨a, rfl, ha⟩ := Nd.stop_at hv
        walk_at "go"
        refine i_ixT (SqT.of ha) (atI_nat (j := 0) rfl) ?_
        walk_at "run"
        refine i_itDF (by decide +kernel) ?_
        walk_at "run"
        refine i_ixT (SqT.of ha) (atI_nat (j := 0) rfl) ?_
        walk_at "run"
        refine i_itDF (by decide +kernel) ?_
        walk_at "run"
        refine i_ixT (SqT.of ha) (atI_nat (j := 0) rfl) ?_
        walk_at "run"
        refine i_itDF (by decide +kernel) ?_
        walk_at "run"
        refine i_ixT (SqT.of ha) (atI_nat (j := 0) rfl) ?_
        walk_at "run"
        refine i_itDF (by decide +kernel) ?_
        walk_at "run"
        refine i_ixT (SqT.of ha) (atI_nat (j := 0) rfl) ?_
        walk_at "run"
        refine i_itDT rfl ?_
        walk_at "run"
        intro p1 H1 f1 s1 e1
        exact q p1 H1 f1 s1 e1
      | wait wl bs n =>
        obtain ⟨a, b, us, rfl, ha, hb, hu⟩ := Nd.wait_at hv
        have hul := hu.len
        simp only [Nd.nexts, List.length_append, List.length_map, List.length_cons, List.length_nil] at hz hul
        walk_at "go"
        refine i_ixT (SqT.of ha) (atI_nat (j := 0) rfl) ?_
        walk_at "run"
        refine i_itDT rfl ?_
        walk_at "run"
        refine i_ixT (SqT.of ha) (atI_nat (j := 2) rfl) ?_
        walk_at "run"
        refine ⟨⟨_, SqT.of hb⟩, cc_pairsT (xs := us) (le_line (by omega)) (fun i acc H' => H' = H ∧ i ≤ bs.length ∧ acc = natsV ((bs.take i).map (·.2))) ⟨rfl, Nat.zero_le _, rfl⟩ (fun i acc H' ⟨e0, hi, e⟩ => ⟨?_, e0 ▸ SqT.of hb⟩) ?_ ?_⟩
        · rw [e, natsV_len, List.length_map, List.length_take]
          omega
        · rintro i x acc H' hx ⟨rfl, hi, rfl⟩
          obtain ⟨t, ht, hxt⟩ := ats_get0 hu hx
          obtain ⟨p, u, bb, rfl, hp, hbb, hpu⟩ := br_at ht hxt
          have hi' : i < bs.length := (List.getElem?_eq_some_iff.mp hbb).1
          refine ⟨p, u, .int (bb.2 : Nat), rfl, SqT.of hp, ?_⟩
          walk_at "run"
          refine ⟨rfl, hi', ?_⟩
          rw [natsV_snoc, List.take_add_one, hbb, List.map_append]
          rfl
        · rintro acc H' ⟨rfl, _, rfl⟩ p1 H1 f1 s1 e1
          rw [hul, List.take_length] at e1
          walk_at "run"
          refine i_ixT (SqT.of (s1 _ _ ha)) (atI_nat (j := 3) rfl) ?_
          walk_at "run"
          intro p2 H2 f2 s2 e2
          walk_at "run"
          refine i_plusL (s2 _ _ e1) e2 (le_line (by rw [natsV_len, List.length_map]; simp; omega)) ?_
          intro p3 H3 f3 s3 e3
          refine q p3 H3 ((s1.trans s2).free f3) (s1.trans (s2.trans s3)) ?_
          rw [e3]
          simp [natsV, Nd.nexts]
theorem ok_renumbered (T : Txt K mg t) : FnOk P w K mg base CX0 1 t.a_renumbered t.fd_renumbered ["node", "numbers"] (sp_renD K) := by
  refine T.F_renumbered.ok sc_renumbered (fun vs H Q E h => ?_) (fun cdv A outer s H vs Q E hr h => ?_)
  · obtain ⟨v, l, nd, kvs, f, rfl, _⟩ := h
    rfl
  · obtain ⟨v, l, nd, kvs, f, rfl, hv, hl, hk, hz, q⟩ := h
    refine ⟨_, (@pss_cons _ _ _ _ _ (@ps_set _ _ 2 _ _ _ _ sc_renumbered.nd rfl (by first | exact Or.inl rfl | exact Or.inr rfl) (@pe_ix _ _ _ _ _ _ _ (kix_tup K) (pv 0) (@pe_int _ _ _ _) (fun _ _ => rfl)) (by rfl) (by first | exact Or.inl rfl | exact Or.inr rfl))
      (@pss_cons _ _ _ _ _ (@ps_if _ _ _ _ _ _ _ _ (@pt_cmpR _ _ _ _ _ _ _ _ op_eq (pv 2) (@pe_str _ _ _ _) (nomark _)) (@pss_one _ _ _ (@ps_ret _ _ _ _ (@pe_tupN _ _ _ _ _ (@pa_cons _ _ _ _ _ (@pe_str _ _ _ _) (@pa_cons _ _ _ _ _ (@pe_ix _ _ _ _ _ _ _ (kix_tup K) (pv 0) (@pe_int _ _ _ _) (fun _ _ => rfl)) (@pa_cons _ _ _ _ _ (@pe_callTy _ _ _ _ _ _ _ _ _ (kcl_tuple K) (by rfl) T.z_tuple bb_tuple (@pa_cons _ _ _ _ _ (pe_lc (Nt := ["pattern", "way"]) (Nf := ["numbers"]) (caps := [1]) rfl (comp_ok (sc := defScope s_renumbered) rfl rfl (by decide +kernel) (by decide +kernel) (by decide +kernel) rfl (by decide +kernel)) (kpi_tup K (@pe_ix _ _ _ _ _ _ _ (kix_tup K) (pv 0) (@pe_int _ _ _ _) (fun _ _ => rfl))) (fun _ _ _ _ _ => (kpg_tup K (n := 2) rfl (pgs_cons (pg_name (i := 0) (show (["pattern", "way", "numbers"] : List Str).Nodup by decide +kernel) rfl (by first | exact Or.inl rfl | exact Or.inr rfl)) (pgs_cons (pg_name (i := 1) (show (["pattern", "way", "numbers"] : List Str).Nodup by decide +kernel) rfl (by first | exact Or.inl rfl | exact Or.inr rfl)) (@pgs_nil _))))) (fun _ _ _ _ _ => (@pts_nil _)) (fun _ _ _ _ _ => (@pe_tupN _ _ _ _ _ (@pa_cons _ _ _ _ _ (pv 0) (@pa_cons _ _ _ _ _ (@pe_dget _ _ _ _ _ _ (by exact hu_of hr) (pv 2) (pv 1) (fun _ _ => rfl)) (@pa_nil _) (by rfl)) (by rfl))))) (@pa_nil _) (by rfl)) (by decide) (by decide) (by rfl) (by rfl)) (@pa_cons _ _ _ _ _ (@pe_dget _ _ _ _ _ _ (by exact hu_of hr) (pv 1) (@pe_ix _ _ _ _ _ _ _ (kix_tup K) (pv 0) (@pe_int _ _ _ _) (fun _ _ => rfl)) (fun _ _ => rfl)) (@pa_nil _) (by rfl)) (by rfl)) (by rfl)) (by rfl))))) (@pss_nil _))
      (@pss_cons _ _ _ _ _ (@ps_if _ _ _ _ _ _ _ _ (@pt_cmpR _ _ _ _ _ _ _ _ op_eq (pv 2) (@pe_str _ _ _ _) (nomark _)) (@pss_one _ _ _ (@ps_ret _ _ _ _ (@pe_tupN _ _ _ _ _ (@pa_cons _ _ _ _ _ (@pe_str _ _ _ _) (@pa_cons _ _ _ _ _ (@pe_ix _ _ _ _ _ _ _ (kix_tup K) (pv 0) (@pe_int _ _ _ _) (fun _ _ => rfl)) (@pa_cons _ _ _ _ _ (@pe_dget _ _ _ _ _ _ (by exact hu_of hr) (pv 1) (@pe_ix _ _ _ _ _ _ _ (kix_tup K) (pv 0) (@pe_int _ _ _ _) (fun _ _ => rfl)) (fun _ _ => rfl)) (@pa_cons _ _ _ _ _ (@pe_dget _ _ _ _ _ _ (by exact hu_of hr) (pv 1) (@pe_ix _ _ _ _ _ _ _ (kix_tup K) (pv 0) (@pe_int _ _ _ _) (fun _ _ => rfl)) (fun _ _ => rfl)) (@pa_nil _) (by rfl)) (by rfl)) (by rfl)) (by rfl))))) (@pss_nil _))
      (@pss_cons _ _ _ _ _ (@ps_if _ _ _ _ _ _ _ _ (@pt_cmpR _ _ _ _ _ _ _ _ op_eq (pv 2) (@pe_str _ _ _ _) (nomark _)) (@pss_one _ _ _ (@ps_ret _ _ _ _ (@pe_tupN _ _ _ _ _ (@pa_cons _ _ _ _ _ (@pe_str _ _ _ _) (@pa_cons _ _ _ _ _ (@pe_dget _ _ _ _ _ _ (by exact hu_of hr) (pv 1) (@pe_ix _ _ _ _ _ _ _ (kix_tup K) (pv 0) (@pe_int _ _ _ _) (fun _ _ => rfl)) (fun _ _ => rfl)) (@pa_cons _ _ _ _ _ (@pe_dget _ _ _ _ _ _ (by exact hu_of hr) (pv 1) (@pe_ix _ _ _ _ _ _ _ (kix_tup K) (pv 0) (@pe_int _ _ _ _) (fun _ _ => rfl)) (fun _ _ => rfl)) (@pa_nil _) (by rfl)) (by rfl)) (by rfl))))) (@pss_nil _))
      (@pss_cons _ _ _ _ _ (@ps_if _ _ _ _ _ _ _ _ (@PW.pt _ _ _ (@pw_or _ _ _ _ _ _ _ (@pt_cmpR _ _ _ _ _ _ _ _ op_eq (pv 2) (@pe_str _ _ _ _) (nomark _)) (@pw_or1 _ _ _ _ (@pt_cmpR _ _ _ _ _ _ _ _ op_eq (pv 2) (@pe_str _ _ _ _) (nomark _))))) (@pss_one _ _ _ (@ps_ret _ _ _ _ (pv 0))) (@pss_nil _))
      (@pss_one _ _ _ (@ps_ret _ _ _ _ (@pe_op _ _ _ _ _ _ _ _ (kop_catT K) (@pe_slice _ _ _ _ _ _ _ _ _ _ (ksl_tup K) (pv 0) (@po_none _) (@po_some _ _ _ (@pe_un _ _ _ _ _ _ un_neg (@pe_int _ _ _ _)))) (@pe_tupN _ _ _ _ _ (@pa_cons _ _ _ _ _ (@pe_dget _ _ _ _ _ _ (by exact hu_of hr) (pv 1) (@pe_ix _ _ _ _ _ _ _ (kix_tup K) (pv 0) (@pe_un _ _ _ _ _ _ un_neg (@pe_int _ _ _ _)) (fun _ _ => rfl)) (fun _ _ => rfl)) (@pa_nil _) (by rfl))))))))))), ?_⟩
    cases ho : nd.one? with
    | some p =>
      obtain ⟨k, r, n⟩ := p
      obtain ⟨_, e2, e3, n1, n2, n3, n4, n5, _⟩ := Nd.one_its ho
      obtain ⟨a, us, rfl, ha, hu, hul⟩ := Nd.one_at ho hv
      have hn := hk n (by rw [e3]; simp)
      walk_at "go"
      refine i_ixT (SqT.of ha) (atI_nat (j := 0) rfl) ?_
      walk_at "run"
      refine i_itDF n1 ?_
      walk_at "run"
      refine i_itDF n2 ?_
      walk_at "run"
      refine i_itDF n3 ?_
      walk_at "run"
      refine i_itDF n4 ?_
      walk_at "run"
      refine i_itDF n5 ?_
      walk_at "run"
      refine i_slInit (xs := V.str k :: us) (y := .int (n : Nat)) (SqT.of ha) ?_
      intro p1 H1 f1 s1 e1
      walk_at "run"
      refine i_ixT (SqT.of (s1 _ _ ha)) (atI_last _ _) ?_
      walk_at "run"
      refine ⟨_, _, rfl, dgI (s1 _ _ hl) hn, ?_⟩
      walk_at "run"
      intro p2 H2 f2 s2 e2'
      walk_at "run"
      refine i_catT (SqT.of (s2 _ _ e1)) (SqT.of e2') (by simp) (by simp) (le_line (by simp; omega)) ?_
      intro p3 H3 f3 s3 e3'
      have sA := s1.trans (s2.trans s3)
      exact q _ _ sA (ren_one ho (hu.same sA) e3')
    | none =>
      cases nd with
      | say w m => cases ho
      | hand w m k => cases ho
      | put b e m => cases ho
      | test c m n =>
        obtain ⟨a, u, rfl, ha, hc⟩ := Nd.test_at hv
        walk_at "go"
        refine i_ixT (SqT.of ha) (atI_nat (j := 0) rfl) ?_
        walk_at "run"
        refine i_itDF (by decide +kernel) ?_
        walk_at "run"
        refine i_itDT rfl ?_
        walk_at "run"
        refine i_ixT (SqT.of ha) (atI_nat (j := 1) rfl) ?_
        walk_at "run"
        refine i_ixT (SqT.of ha) (atI_nat (j := 2) rfl) ?_
        walk_at "run"
        refine ⟨_, _, rfl, dgI hl (hk m (by simp [Nd.nexts])), ?_⟩
        walk_at "run"
        refine i_ixT (SqT.of ha) (atI_nat (j := 3) rfl) ?_
        walk_at "run"
        refine ⟨_, _, rfl, dgI hl (hk n (by simp [Nd.nexts])), ?_⟩
        walk_at "run"
        intro p1 H1 f1 s1 e1
        exact q _ _ s1 (tup4_at e1 str_at0 (hc.same s1) int_at int_at)
      | call m n =>
        obtain ⟨a, rfl, ha⟩ := Nd.call_at hv
        walk_at "go"
        refine i_ixT (SqT.of ha) (atI_nat (j := 0) rfl) ?_
        walk_at "run"
        refine i_itDF (by decide +kernel) ?_
        walk_at "run"
        refine i_itDF (by decide +kernel) ?_
        walk_at "run"
        refine i_itDT rfl ?_
        walk_at "run"
        refine i_ixT (SqT.of ha) (atI_nat (j := 1) rfl) ?_
        walk_at "run"
        refine ⟨_, _, rfl, dgI hl (hk m (by simp [Nd.nexts])), ?_⟩
        walk_at "run"
        refine i_ixT (SqT.of ha) (atI_nat (j := 2) rfl) ?_
        walk_at "run"
        refine ⟨_, _, rfl, dgI hl (hk n (by simp [Nd.nexts])), ?_⟩
        walk_at "run"
        intro p1 H1 f1 s1 e1
        exact q _ _ s1 (tup3_at e1 str_at0 int_at int_at)
      | back =>
        obtain ⟨a, rfl, ha⟩ := Nd.back_at hv
        walk_at "go"
        refine i_ixT (SqT.of ha) (atI_nat (j := 0) rfl) ?_
        walk_at "run"
        refine i_itDF (by decide +kernel) ?_
        walk_at "run"
        refine i_itDF (by decide +kernel) ?_
        walk_at "run"
        refine i_itDF (by decide +kernel) ?_
        walk_at "run"
        refine i_itDT rfl ?_
        walk_at "run"
        exact q _ _ (Same.refl _) hv
      | stop =>
        obtain ⟨a, rfl, ha⟩ := Nd.stop_at hv
        walk_at "go"
        refine i_ixT (SqT.of ha) (atI_nat (j := 0) rfl) ?_
        walk_at "run"
        refine i_itDF (by decide +kernel) ?_
        walk_at "run"
        refine i_itDF (by decide +kernel) ?_
        walk_at "run"
        refine i_itDF (by decide +kernel) ?_
        walk_at "run"
        refine i_itDF (by decide +kernel) ?_
        walk_at "run"
        refine i_itDT rfl ?_
        walk_at "run"
        exact q _ _ (Same.refl _) hv
      | wait wl bs n =>
        obtain ⟨a, b, us, rfl, ha, hb, hu⟩ := Nd.wait_at hv
        have hul := hu.len
        simp only [Nd.nexts, List.length_append, List.length_map, List.length_cons, List.length_nil] at hz hul
        walk_at "go"
        refine i_ixT (SqT.of ha) (atI_nat (j := 0) rfl) ?_
        walk_at "run"
        refine i_itDT rfl ?_
        walk_at "run"
        refine i_ixT (SqT.of ha) (atI_nat (j := 1) rfl) ?_
        walk_at "run"
        refine i_ixT (SqT.of ha) (atI_nat (j := 2) rfl) ?_
        walk_at "run"
        refine ⟨⟨_, SqT.of hb⟩, cc_pairsT (xs := us) (le_line (by omega)) (fun i acc H' => Same H H' ∧ i ≤ bs.length ∧ Tr.Ats H' ((bs.take i).map fun x => brT (renB f x)) acc []) ⟨Same.refl _, Nat.zero_le _, ats_nil0.mpr rfl⟩ (fun i acc H' ⟨s', hi, e⟩ => ⟨?_, SqT.of (s' _ _ hb)⟩) ?_ ?_⟩
        · rw [e.len]
          simp only [List.length_map, List.length_take]
          omega
        · rintro i x acc H' hx ⟨s', hi, e⟩
          obtain ⟨t, ht, hxt⟩ := ats_get0 hu hx
          obtain ⟨p, u, bb, rfl, hp, hbb, hpu⟩ := br_at ht hxt
          have hi' : i < bs.length := (List.getElem?_eq_some_iff.mp hbb).1
          have hlt := hk bb.2 (by simp only [Nd.nexts, List.mem_append, List.mem_map]; exact .inl ⟨bb, List.mem_of_getElem? hbb, rfl⟩)
          refine ⟨p, u, .int (bb.2 : Nat), rfl, SqT.of (s' _ _ hp), ?_⟩
          walk_at "run"
          refine ⟨_, _, rfl, dgI (s' _ _ hl) hlt, ?_⟩
          walk_at "run"
          intro p1 H1 f1 s1 e1
          refine ⟨s'.trans s1, hi', ?_⟩
          rw [List.take_add_one, hbb, List.map_append]
          exact ats_snoc0 (e.same s1) (tup2_at e1 (hpu.same (s'.trans s1)) int_at)
        · rintro acc H' ⟨s', _, e⟩ p1 H1 f1 s1 e1
          walk_at "run"
          refine i_tupleL (SqL.of e1) ?_
          intro p2 H2 f2 s2 e2
          walk_at "run"
          have sA := s'.trans (s1.trans s2)
          refine i_ixT (SqT.of (sA _ _ ha)) (atI_nat (j := 3) rfl) ?_
          walk_at "run"
          refine ⟨_, _, rfl, dgI (sA _ _ hl) (hk n (by simp [Nd.nexts])), ?_⟩
          walk_at "run"
          intro p3 H3 f3 s3 e3
          rw [hul, List.take_length] at e
          refine q _ _ (sA.trans s3) (tup4_at e3 str_at0 int_at (at_tup0.mpr ⟨p2, _, rfl, s3 _ _ e2, ?_⟩) int_at)
          rw [List.map_map]
          exact e.same (s1.trans (s2.trans s3))
theorem ats_at0 {H : Hp} {ns : List Nd} {un : List V} (h : Tr.Ats H (ns.map Nd.tr) un []) {i : Nat} (hi : i < ns.length) : ∃ v, atI un (i : Nat) = some v ∧ (ns.getD i .back).tr.At H v [] := by
  have hl := h.len
  rw [List.length_map] at hl
  have hi' : i < un.length := by omega
  obtain ⟨x, hx, h2⟩ := ats_get0 h (List.getElem?_eq_getElem hi')
  refine ⟨un[i], atI_nat (List.getElem?_eq_getElem hi'), ?_⟩
  rw [List.getElem?_map, List.getElem?_eq_getElem hi] at hx
  obtain rfl : ns[i].tr = x := Option.some.inj hx
  rw [List.getD_eq_getElem?_getD, List.getElem?_eq_getElem hi]
  exact h2
theorem Gok.nexts {ns : List Nd} {f i : Nat} (g : Gok ns f) (hi : i < ns.length) : (∀ k ∈ (ns.getD i .back).nexts, k < ns.length) ∧ (ns.getD i .back).nexts.length ≤ 100 := by
  rw [List.getD_eq_getElem?_getD, List.getElem?_eq_getElem hi]
  have h := g.at_ i ns[i] (List.getElem?_eq_getElem hi)
  refine ⟨h.lt, ?_⟩
  show ns[i].nexts.length ≤ 100
  cases e : ns[i] with
  | wait l bs m =>
    rw [e] at h
    have := h.2.2
    simp [Nd.nexts]
    omega
  | _ => simp [Nd.nexts]
theorem nats_snoc_take {ks : List Nat} {i k : Nat} (e : ks[i]? = some k) : natsV (ks.take i) ++ [V.int (k : Nat)] = natsV (ks.take (i + 1)) := by
  rw [natsV_snoc, List.take_add_one, e]
  rfl
theorem natsV_get {ks : List Nat} {i : Nat} {x : V} (e : (natsV ks)[i]? = some x) : ∃ k, ks[i]? = some k ∧ x = .int (k : Nat) := by
  unfold natsV at e
  rw [List.getElem?_map] at e
  cases h : ks[i]? with
  | none => rw [h] at e; cases e
  | some k => rw [h] at e; exact ⟨k, rfl, (Option.some.inj e).symm⟩
def Lsts (H : Hp) (us : List V) (nx : Nat → List Nat) (n : Nat) : Prop := us.length = n ∧ ∀ i, i < n → ∃ p, us[i]? = some (.ref p) ∧ H p = some (.lst (natsV (nx i)))
theorem Lsts.mono {H H' : Hp} {us : List V} {nx : Nat → List Nat} {n : Nat} (h : Lsts H us nx n) (s : Same H H') : Lsts H' us nx n := ⟨h.1, fun i hi => by
  obtain ⟨p, h1, h2⟩ := h.2 i hi
  exact ⟨p, h1, s _ _ h2⟩⟩
def sp_found (K : PySem.W.Frag) : Sp := fun vs H Q _ => ∃ (l : Addr) (us : List V) (nx : Nat → List Nat) (n f : Nat), vs = [.ref l, .int (f : Nat)] ∧ H l = some (.lst us) ∧ Lsts H us nx n ∧ f < n ∧ n ≤ 5000 ∧ (∀ k, k < n → ∀ j ∈ nx k, j < n) ∧ ∀ p H', H p = none → Same H H' → H' p = some (.lst (natsV (bfs nx (n + 1) 0 [f]))) → Q (.ref p) H'
theorem row_few {n : Nat} {row ks : List Nat} (hn : row.Nodup) (hl : ∀ k ∈ row, k < n) (hk : ∀ k ∈ ks, k < n) : (addAll row ks).length ≤ n := by
  obtain ⟨_, h2, h3, _⟩ := addAll_ok hn hl ks hk
  exact pigeon n _ h2 h3
theorem ok_found_from (T : Txt K mg t) : FnOk P w K mg base CX0 1 t.a_found_from t.fd_found_from ["ways", "first"] (sp_found K) := by
  refine T.F_found_from.ok sc_found_from (fun vs H Q E h => ?_) (fun cdv A outer s H vs Q E hr h => ?_)
  · obtain ⟨l, us, nx, n, f, rfl, _⟩ := h
    rfl
  · obtain ⟨l, us, nx, n, f, rfl, hl, hu, hf, hfew, hx, q⟩ := h
    refine ⟨_, (@pss_cons _ _ _ _ _ (@ps_set _ _ 2 _ _ _ _ sc_found_from.nd rfl (by first | exact Or.inl rfl | exact Or.inr rfl) (@pe_lstN _ _ _ _ (@pa_cons _ _ _ _ _ (pv 1) (@pa_nil _) (by rfl))) (by rfl) (by first | exact Or.inl rfl | exact Or.inr rfl))
      (@pss_cons _ _ _ _ _ (@ps_set _ _ 3 _ _ _ _ sc_found_from.nd rfl (by first | exact Or.inl rfl | exact Or.inr rfl) (@pe_disp _ _ _ _ _ (@pps_cons _ _ _ _ _ _ _ _ _ (pv 1) (@pe_bl _ _ _ _) (@pps_nil _ _)) rfl rfl (by simp) (by decide)) (by rfl) (by first | exact Or.inl rfl | exact Or.inr rfl))
      (@pss_cons _ _ _ _ _ (@ps_set _ _ 4 _ _ _ _ sc_found_from.nd rfl (by first | exact Or.inl rfl | exact Or.inr rfl) (@pe_int _ _ _ _) (by rfl) (by first | exact Or.inl rfl | exact Or.inr rfl))
      (@pss_cons _ _ _ _ _ (@ps_while _ _ _ _ _ _ PassesOwn.never (@pt_cmpR _ _ _ _ _ _ _ _ op_lt (pv 4) (@pe_callB _ _ _ _ _ _ _ _ _ (kcl_len K) (by rfl) T.z_len bb_len (@pa_cons _ _ _ _ _ (pv 2) (@pa_nil _) (by rfl)) (by decide) (by decide) (by rfl) (by rfl)) (nomark _)) (@pss_cons _ _ _ _ _ (@ps_for _ _ _ _ _ _ _ _ PassesOwn.never rfl (kpi_list K (@pe_ix _ _ _ _ _ _ _ (kix_list K) (pv 0) (@pe_ix _ _ _ _ _ _ _ (kix_list K) (pv 2) (pv 4) (fun _ _ => rfl)) (fun _ _ => rfl))) (pg_name (i := 5) sc_found_from.nd rfl (by first | exact Or.inl rfl | exact Or.inr rfl)) (@pss_one _ _ _ (@ps_if _ _ _ _ _ _ _ _ (pt_cmp (pc_dnotin (by exact hu_of hr) (pv 5) (pv 3))) (@pss_cons _ _ _ _ _ (ps_dput (by exact hu_of hr) (pv 3) (pv 5) (@pe_bl _ _ _ _) rfl)
            (@pss_one _ _ _ (@ps_expr _ _ _ _ (@kpe_bm _ K _ _ _ _ _ _ _ _ _ _ _ PySem.F.plainAttrs_list PySem.F.slot_list_append PySem.F.type_list_append mt_append (pv 2) (@pa_cons _ _ _ _ _ (pv 5) (@pa_nil _) (by rfl)) (by rfl) (by rfl) (by rfl) (by rfl) (by rfl) (by rfl)) (by rfl)))) (@pss_nil _))) (by intro _; rfl))
        (@pss_one _ _ _ (@ps_aug _ _ 4 _ _ _ _ _ _ sc_found_from.nd rfl (by first | exact Or.inl rfl | exact Or.inr rfl) (@pe_int _ _ _ _) ip_add (by first | exact Or.inl rfl | exact Or.inr rfl)))))
      (@pss_one _ _ _ (@ps_ret _ _ _ _ (pv 2))))))), ?_⟩
    have hz0 : Bf nx n 0 [f] := ⟨by simp, fun k hk => by rw [List.mem_singleton.mp hk]; exact hf, Nat.zero_le _, fun i k hi => absurd hi (Nat.not_lt_zero _)⟩
    walk_at "go"
    intro pf H1 f1 s1 e1
    walk_at "run"
    refine i_disp1 (k := Sum.inl (f : Int)) rfl ?_
    intro pk H2 f2 s2 e2
    walk_at "run"
    have s12 := s1.trans s2
    have fk : H pk = none := s1.free f2
    have hne : pf ≠ pk := ne_of_none e1 f2
    refine i_while (fun m σ H' => Same H H' ∧ ∃ (p : Nat) (row : List Nat) (y : Option V), σ = [some (.ref l), some (.int (f : Nat)), some (.ref pf), some (.ref pk), some (.int (p : Nat)), y] ∧ m = n + 1 - p ∧ Bf nx n p row ∧ bfs nx (n + 1 - p) p row = bfs nx (n + 1) 0 [f] ∧ H' pf = some (.lst (natsV row)) ∧ SetI H' pk row) (n + 1) ⟨s12, 0, [f], _, rfl, rfl, hz0, rfl, s2 _ _ e1, setI_one e2⟩ ?_
    rintro m σ H3 ⟨s3, p, row, y, rfl, rfl, hb, hrow, hpf, hpk⟩
    have hbl := hb.le
    have hbf := hb.few
    walk_at "run"
    refine i_lenL (SqL.of hpf) ?_
    walk_at "run"
    rw [natsV_len]
    refine ite2 (fun hc => ?_) (fun hc => ?_)
    · have hp : p < row.length := by have := of_decide_eq_true hc; omega
      have ep : row[p]? = some row[p] := List.getElem?_eq_getElem hp
      have hkn : row[p] < n := hb.lt _ (List.getElem_mem hp)
      obtain ⟨px, hu2, hpx⟩ := hu.2 _ hkn
      have hbfs : bfs nx (n + 1 - (p + 1)) (p + 1) (addAll row (nx row[p])) = bfs nx (n + 1) 0 [f] := by rw [← hrow, show n + 1 - p = (n + 1 - (p + 1)) + 1 by omega, bfs_go ep]
      refine ⟨fun σ' H' => Same H H' ∧ ∃ (y : Option V), σ' = [some (.ref l), some (.int (f : Nat)), some (.ref pf), some (.ref pk), some (.int ((p + 1 : Nat) : Int)), y] ∧ H' pf = some (.lst (natsV (addAll row (nx row[p])))) ∧ SetI H' pk (addAll row (nx row[p])), fun σ' H' ⟨s', y, e, h1, h2⟩ => ⟨n + 1 - (p + 1), by omega, s', p + 1, addAll row (nx row[p]), y, e, rfl, hb.step ep (hx _ hkn), hbfs, h1, h2⟩, ?_⟩
      walk_at "run"
      refine i_ixL (SqL.of hpf) (atI_nats hp) ?_
      rw [show row.getD p 0 = row[p] by simp [hp]]
      refine i_ixL (SqL.of (s3 _ _ hl)) (atI_nat hu2) ?_
      walk_at "run"
      refine ⟨⟨_, SqL.of (s3 _ _ hpx)⟩, for_list (K := K) (a := px) (xs := natsV (nx row[p])) (fun j σ H' => Same H H' ∧ j ≤ (nx row[p]).length ∧ H' pf = some (.lst (natsV (addAll row ((nx row[p]).take j)))) ∧ SetI H' pk (addAll row ((nx row[p]).take j)) ∧ ∃ y, σ = [some (.ref l), some (.int (f : Nat)), some (.ref pf), some (.ref pk), some (.int (p : Nat)), y]) ⟨s3, Nat.zero_le _, hpf, hpk, _, rfl⟩ (fun j σ H' _ ⟨s', _⟩ => SqL.of (s' _ _ hpx)) ?_ ?_⟩
      · rintro j v σ H5 hj ⟨s5, hjl, hf5, hk5, y, rfl⟩
        obtain ⟨k, hk, rfl⟩ := natsV_get hj
        have hj' : j < (nx row[p]).length := (List.getElem?_eq_some_iff.mp hk).1
        have hall : ∀ x ∈ (nx row[p]).take j, x < n := fun x hx' => hx _ hkn x (List.mem_of_mem_take hx')
        have hfw := row_few hb.nd hb.lt hall
        have htk : (nx row[p]).take (j + 1) = (nx row[p]).take j ++ [k] := by rw [List.take_add_one, hk]; rfl
        walk_at "run"
        refine i_setNotInI hk5 ?_
        by_cases hm : k ∈ addAll row ((nx row[p]).take j)
        · refine i_itNF hm ?_
          walk_at "run"
          refine ⟨s5, hj', ?_, ?_, _, rfl⟩
          · rw [htk, addAll_snoc, if_pos hm]; exact hf5
          · rw [htk, addAll_snoc, if_pos hm]; exact hk5
        · refine i_itNT hm ?_
          walk_at "run"
          obtain ⟨H6, hput, hset, o6, rfl⟩ := hk5.put (k := k) (v := .bl true) (by omega)
          refine ⟨pk, _, rfl, hput, ?_⟩
          walk_at "run"
          have hf6 : upd H5 pk (.dK o6) pf = some (.lst (natsV (addAll row ((nx row[p]).take j)))) := by rw [upd_ne hne]; exact hf5
          refine i_tyL (SqL.of hf6) ?_
          walk_at "run"
          refine i_append hf6 (Nat.lt_of_lt_of_le (show (natsV (addAll row ((nx row[p]).take j))).length < 1000000 by rw [natsV_len]; omega) (le_line (Nat.le_refl _))) ?_
          refine ⟨(s5.updNew fk).updNew f1, hj', ?_, ?_, _, rfl⟩
          · rw [upd_same, natsV_snoc, htk, addAll_snoc, if_neg hm]
          · rw [htk, addAll_snoc, if_neg hm]
            obtain ⟨kvs, h1, h2⟩ := hset
            exact ⟨kvs, by rw [upd_ne (Ne.symm hne)]; exact h1, h2⟩
      · rintro σ H5 ⟨s5, hjl, hf5, hk5, y, rfl⟩
        rw [natsV_len, List.take_length] at hf5 hk5
        refine i_aug1 rfl ?_
        exact ⟨s5, _, rfl, hf5, hk5⟩
    · have hp : row.length ≤ p := by
        refine Nat.le_of_not_lt fun z => hc ?_
        exact decide_eq_true (by omega)
      walk_at "run"
      rw [bfs_stop hp] at hrow
      rw [hrow] at hpf
      exact q pf H3 f1 s3 hpf
def sp_cut (K : PySem.W.Frag) : Sp := fun vs H Q _ => ∃ (v : V) (b n : Addr) (bs : List (Str × Int)) (ns : List Nd) (f : Nat), vs = [v] ∧ GAt H v bs ns f b n ∧ Gok ns f ∧ bs.length ≤ 100 ∧
  ∀ v' H' b' n' l', Same H H' → H b' = none → H n' = none → H l' = none → OutW H' v' bs (cutN ns f) 0 (posW (rowN ns f) ns.length) b' n' l' → Q v' H'
theorem pos_wayV (row : List Nat) (k : Nat) : ((if k ∈ row then some (V.int (row.idxOf k : Nat)) else none : Option V)).getD .non = wayV (if k ∈ row then some (row.idxOf k) else none) := by
  by_cases h : k ∈ row
  · rw [if_pos h, if_pos h]; rfl
  · rw [if_neg h, if_neg h]; rfl
theorem cutN_snoc {ns : List Nd} {f i k : Nat} (e : (rowN ns f)[i]? = some k) : (((rowN ns f).take i).map fun i => (ns.getD i .back).ren fun k => (rowN ns f).idxOf k).map Nd.tr ++ [((ns.getD k .back).ren fun k => (rowN ns f).idxOf k).tr] = (((rowN ns f).take (i + 1)).map fun i => (ns.getD i .back).ren fun k => (rowN ns f).idxOf k).map Nd.tr := by
  rw [List.take_add_one, e]
  simp
theorem ok_cut (T : Txt K mg t) : FnOk P w K mg base CX0 3 t.a_cut t.fd_cut ["graph"] (sp_cut K) := by
  have G_found_from := ok_found_from (P := P) (w := w) (base := base) T
  have G_next_ones := ok_next_ones (P := P) (w := w) (base := base) T
  have G_renumbered := ok_renumbered (P := P) (w := w) (base := base) T
  refine T.F_cut.ok sc_cut (fun vs H Q E h => ?_) (fun cdv A outer s H vs Q E hr h => ?_)
  · obtain ⟨v, b, n, bs, ns, f, rfl, _⟩ := h
    rfl
  · obtain ⟨v, b, n, bs, ns, f, rfl, hg, gk, hbl, q⟩ := h
    refine ⟨_, (@pss_cons _ _ _ _ _ (@ps_set _ _ 1 _ _ _ _ sc_cut.nd rfl (by first | exact Or.inl rfl | exact Or.inr rfl) (@pe_ix _ _ _ _ _ _ _ (kix_tup K) (pv 0) (@pe_int _ _ _ _) (fun _ _ => rfl)) (by rfl) (by first | exact Or.inl rfl | exact Or.inr rfl))
      (@pss_cons _ _ _ _ _ (@ps_set _ _ 2 _ _ _ _ sc_cut.nd rfl (by first | exact Or.inl rfl | exact Or.inr rfl) (@pe_call _ _ _ _ _ _ _ _ _ _ _ _ _ _ _ _ G_found_from (hr.mono (by omega)) rfl T.m_found_from T.F_found_from.kp T.b_found_from .nil pass0 (@pa_cons _ _ _ _ _ (pe_lc (Nt := ["node"]) (Nf := []) (caps := []) rfl (comp_ok (sc := defScope s_cut) rfl rfl (by decide +kernel) (by decide +kernel) (by decide +kernel) rfl (by decide +kernel)) (kpi_list K (pv 1)) (fun _ _ _ _ _ => (pg_name (i := 0) (show (["node"] : List Str).Nodup by decide +kernel) rfl (by first | exact Or.inl rfl | exact Or.inr rfl))) (fun _ _ _ _ _ => (@pts_nil _)) (fun _ _ _ _ _ => (@pe_call _ _ _ _ _ _ _ _ _ _ _ _ _ _ _ _ G_next_ones (hr.mono (by omega)) rfl T.m_next_ones T.F_next_ones.kp T.b_next_ones .nil pass0 (@pa_cons _ _ _ _ _ (pv 0) (@pa_nil _) (by rfl)) (by decide) (by rfl) (by rfl)))) (@pa_cons _ _ _ _ _ (@pe_ix _ _ _ _ _ _ _ (kix_tup K) (pv 0) (@pe_int _ _ _ _) (fun _ _ => rfl)) (@pa_nil _) (by rfl)) (by rfl)) (by decide) (by rfl) (by rfl)) (by rfl) (by first | exact Or.inl rfl | exact Or.inr rfl))
      (@pss_cons _ _ _ _ _ (@ps_set _ _ 3 _ _ _ _ sc_cut.nd rfl (by first | exact Or.inl rfl | exact Or.inr rfl) (@pe_callTy _ _ _ _ _ _ _ _ _ (kcl_dict K) (by rfl) T.z_dict bb_dict (@pa_cons _ _ _ _ _ (pe_lc (Nt := ["place", "number"]) (Nf := []) (caps := []) rfl (comp_ok (sc := defScope s_cut) rfl rfl (by decide +kernel) (by decide +kernel) (by decide +kernel) rfl (by decide +kernel)) (pi_enum K rfl T.z_enumerate (@pa_cons _ _ _ _ _ (pv 2) (@pa_nil _) (by rfl))) (fun _ _ _ _ _ => (kpg_tup K (n := 2) rfl (pgs_cons (pg_name (i := 0) (show (["place", "number"] : List Str).Nodup by decide +kernel) rfl (by first | exact Or.inl rfl | exact Or.inr rfl)) (pgs_cons (pg_name (i := 1) (show (["place", "number"] : List Str).Nodup by decide +kernel) rfl (by first | exact Or.inl rfl | exact Or.inr rfl)) (@pgs_nil _))))) (fun _ _ _ _ _ => (@pts_nil _)) (fun _ _ _ _ _ => (@pe_tupN _ _ _ _ _ (@pa_cons _ _ _ _ _ (pv 1) (@pa_cons _ _ _ _ _ (pv 0) (@pa_nil _) (by rfl)) (by rfl))))) (@pa_nil _) (by rfl)) (by decide) (by decide) (by rfl) (by rfl)) (by rfl) (by first | exact Or.inl rfl | exact Or.inr rfl))
      (@pss_cons _ _ _ _ _ (ps_lc (i := 4) (Nt := ["number"]) (Nf := ["numbers"]) (caps := [3]) rfl (comp_ok (sc := defScope s_cut) rfl rfl (by decide +kernel) (by decide +kernel) (by decide +kernel) rfl (by decide +kernel)) (pi_range1 rfl T.z_range (@pa_cons _ _ _ _ _ (@pe_callB _ _ _ _ _ _ _ _ _ (kcl_len K) (by rfl) T.z_len bb_len (@pa_cons _ _ _ _ _ (pv 1) (@pa_nil _) (by rfl)) (by decide) (by decide) (by rfl) (by rfl)) (@pa_nil _) (by rfl))) (fun _ _ _ _ _ => (pg_name (i := 0) (show (["number", "numbers"] : List Str).Nodup by decide +kernel) rfl (by first | exact Or.inl rfl | exact Or.inr rfl))) (fun _ _ _ _ _ => (@pts_nil _)) (fun _ _ _ _ _ => (pe_dget1 (by exact hu_of hr) (pv 1) (pv 0) ⟨by rfl, by rfl, by rfl, by rfl⟩)) sc_cut.nd rfl (by first | exact Or.inl rfl | exact Or.inr rfl) rfl)
      (@pss_one _ _ _ (@ps_ret _ _ _ _ (@pe_tupN _ _ _ _ _ (@pa_cons _ _ _ _ _ (@pe_tupN _ _ _ _ _ (@pa_cons _ _ _ _ _ (@pe_callTy _ _ _ _ _ _ _ _ _ (kcl_list K) (by rfl) T.z_list bb_list (@pa_cons _ _ _ _ _ (@pe_ix _ _ _ _ _ _ _ (kix_tup K) (pv 0) (@pe_int _ _ _ _) (fun _ _ => rfl)) (@pa_nil _) (by rfl)) (by decide) (by decide) (by rfl) (by rfl)) (@pa_cons _ _ _ _ _ (pe_lc (Nt := ["number"]) (Nf := ["numbers", "nodes"]) (caps := [3, 1]) rfl (comp_ok (sc := defScope s_cut) rfl rfl (by decide +kernel) (by decide +kernel) (by decide +kernel) rfl (by decide +kernel)) (kpi_list K (pv 2)) (fun _ _ _ _ _ => (pg_name (i := 0) (show (["number", "numbers", "nodes"] : List Str).Nodup by decide +kernel) rfl (by first | exact Or.inl rfl | exact Or.inr rfl))) (fun _ _ _ _ _ => (@pts_nil _)) (fun _ _ _ _ _ => (@pe_call _ _ _ _ _ _ _ _ _ _ _ _ _ _ _ _ G_renumbered (hr.mono (by omega)) rfl T.m_renumbered T.F_renumbered.kp T.b_renumbered .nil pass0 (@pa_cons _ _ _ _ _ (@pe_ix _ _ _ _ _ _ _ (kix_list K) (pv 2) (pv 0) (fun _ _ => rfl)) (@pa_cons _ _ _ _ _ (pv 1) (@pa_nil _) (by rfl)) (by rfl)) (by decide) (by rfl) (by rfl)))) (@pa_cons _ _ _ _ _ (@pe_int _ _ _ _) (@pa_nil _) (by rfl)) (by rfl)) (by rfl))) (@pa_cons _ _ _ _ _ (pv 4) (@pa_nil _) (by rfl)) (by rfl))))))))), ?_⟩
    have hfew := gk.few
    have hbf := bf_row gk
    have hrl := hbf.few
    obtain ⟨ga, ub, un, rfl, g1, g2, g3, g4, g5⟩ := hg.ex
    have hul : un.length = ns.length := by rw [g5.len, List.length_map]
    walk_at "go"
    refine i_ixT (SqT.of g1) (atI_nat (j := 1) rfl) ?_
    walk_at "run"
    refine ⟨⟨_, SqL.of g4⟩, cc_list (xs := un) (le_line (by omega)) (fun i acc H' => Same H H' ∧ i ≤ ns.length ∧ Lsts H' acc (nxN ns) i) ⟨Same.refl _, Nat.zero_le _, rfl, fun i hi => absurd hi (Nat.not_lt_zero _)⟩ (fun i acc H' ⟨s', hi, e⟩ => ⟨by rw [e.1]; omega, SqL.of (s' _ _ g4)⟩) ?_ ?_⟩
    · rintro i x acc H' hx ⟨s', hi, e⟩
      have hi' : i < ns.length := by rw [← hul]; exact (List.getElem?_eq_some_iff.mp hx).1
      obtain ⟨u, hu, hut⟩ := ats_at0 (g5.same s') hi'
      obtain rfl : x = u := Option.some.inj ((atI_nat hx).symm.trans hu)
      obtain ⟨x1, x2⟩ := Gok.nexts gk hi'
      walk_at "run"
      refine ⟨x, ns.getD i .back, rfl, hut, x2, fun px H4 f4 s4 e4 => ?_⟩
      refine ⟨s'.trans s4, hi', by simp [e.1], fun j hj => ?_⟩
      by_cases hji : j < i
      · obtain ⟨p, h1, h2⟩ := e.2 j hji
        exact ⟨p, by rw [List.getElem?_append_left (by rw [e.1]; exact hji)]; exact h1, s4 _ _ h2⟩
      · obtain rfl : j = i := by omega
        exact ⟨px, by rw [List.getElem?_append_right (by rw [e.1]; exact Nat.le_refl _), e.1, Nat.sub_self]; rfl, e4⟩
    rintro acc H' ⟨s0, _, hw⟩ pw H0 f0 s0' e0
    rw [hul] at hw
    have sA := s0.trans s0'
    walk_at "run"
    refine i_ixT (SqT.of (sA _ _ g1)) (atI_nat (j := 2) rfl) ?_
    walk_at "run"
    refine ⟨pw, acc, nxN ns, ns.length, f, rfl, e0, hw.mono s0', gk.first, by omega, nx_lt gk, fun pf H1 f1 s1' e1 => ?_⟩
    have s1 := sA.trans s1'
    change H1 pf = some (.lst (natsV (rowN ns f))) at e1
    walk_at "run"
    refine ⟨⟨_, SqL.of e1⟩, cc_enum (xs := natsV (rowN ns f)) (le_line (by rw [natsV_len]; omega)) (fun i acc H' => Same H1 H' ∧ i ≤ (rowN ns f).length ∧ acc.length = i ∧ PrK H' acc (placeKv ((rowN ns f).take i))) ⟨Same.refl _, Nat.zero_le _, rfl, .nil⟩ (fun i acc H' ⟨s', _, e, _⟩ => ⟨by omega, SqL.of (s' _ _ e1)⟩) ?_ ?_⟩
    · rintro i x acc H' H3 hx ⟨s', hi, ha, hp⟩ s3
      obtain ⟨k, hk, rfl⟩ := natsV_get hx
      have hi' : i < (rowN ns f).length := (List.getElem?_eq_some_iff.mp hk).1
      walk_at "run"
      intro p4 H4 f4 s4 e4
      refine ⟨s'.trans (s3.trans s4), hi', by simp [ha], ?_⟩
      rw [List.take_add_one, hk, show (rowN ns f).take i ++ (some k).toList = (rowN ns f).take i ++ [k] from rfl, placeKv_snoc, List.length_take, Nat.min_eq_left hi]
      exact (hp.mono (s3.trans s4).tups).snoc (k := Sum.inl (k : Int)) e4
    · rintro acc H3 ⟨s3, _, _, hp⟩ pl H4 f4 s4 e4
      rw [natsV_len, List.take_length] at hp
      walk_at "run"
      refine i_dictP (SqL.of e4) (hp.mono s4.tups) ?_
      intro pd H5 f5 s5 e5
      walk_at "run"
      have s15 := s3.trans (s4.trans s5)
      have sB := s1.trans s15
      refine i_lenL (SqL.of (sB _ _ g4)) ?_
      walk_at "run"
      rw [hul]
      refine cc_range (n := ns.length) (le_line (by omega)) (fun i acc H' => H' = H5 ∧ i ≤ ns.length ∧ acc = waysV ((posW (rowN ns f) ns.length).take i)) ⟨rfl, Nat.zero_le _, rfl⟩ (fun i acc H' ⟨_, hi, e⟩ => by rw [e]; simp only [waysV, List.length_map, List.length_take]; omega) ?_ ?_
      · rintro i acc H' hi ⟨rfl, hi2, rfl⟩
        rw [Int.zero_add]
        walk_at "run"
        refine ⟨.inl ⟨_, .inl e5⟩, ?_⟩
        walk_at "run"
        refine ⟨_, .inl ⟨_, Sum.inl (i : Int), .inl e5, rfl, rfl⟩, rfl, hi, ?_⟩
        rw [place_pos hbf.nd, pos_wayV, List.take_add_one, posW_at hi]
        simp [waysV]
      · rintro acc6 H6 ⟨rfl, _, rfl⟩ ps H7 f7 s7 e7
        rw [List.take_of_length_le (by simp [posW])] at e7
        walk_at "run"
        have sC := sB.trans s7
        refine i_ixT (SqT.of (sC _ _ g1)) (atI_nat (j := 0) rfl) ?_
        walk_at "run"
        refine i_listL (SqL.of (sC _ _ g2)) ?_
        intro pb H8 f8 s8 e8
        walk_at "run"
        have s18 := s15.trans (s7.trans s8)
        have sD := sC.trans s8
        have hrow := s18 _ _ e1
        refine ⟨⟨_, SqL.of hrow⟩, cc_list (xs := natsV (rowN ns f)) (le_line (by rw [natsV_len]; omega)) (fun i acc H' => Same H8 H' ∧ i ≤ (rowN ns f).length ∧ Tr.Ats H' ((((rowN ns f).take i).map fun i => (ns.getD i .back).ren fun k => (rowN ns f).idxOf k).map Nd.tr) acc []) ⟨Same.refl _, Nat.zero_le _, ats_nil0.mpr rfl⟩ (fun i acc H' ⟨s', hi, e⟩ => ⟨?_, SqL.of (s' _ _ hrow)⟩) ?_ ?_⟩
        · rw [e.len]
          simp only [List.length_map, List.length_take]
          omega
        · rintro i x acc H' hx ⟨s', hi, e⟩
          obtain ⟨k, hk, rfl⟩ := natsV_get hx
          have hi' : i < (rowN ns f).length := (List.getElem?_eq_some_iff.mp hk).1
          have hkl : k < ns.length := hbf.lt k (List.mem_of_getElem? hk)
          have sE := sD.trans s'
          obtain ⟨u, hu, hut⟩ := ats_at0 (g5.same sE) hkl
          walk_at "run"
          refine i_ixL (SqL.of (sE _ _ g4)) hu ?_
          walk_at "run"
          obtain ⟨x1, x2⟩ := Gok.nexts gk hkl
          refine ⟨u, pd, ns.getD k .back, _, (fun k => (rowN ns f).idxOf k), rfl, hut, (s7.trans (s8.trans s')) _ _ e5, fun j hj => ?_, x2, fun v' H9 s9 h9 => ?_⟩
          · rw [place_pos hbf.nd, if_pos (hbf.cl i k hi' hk j hj)]
          · refine ⟨s'.trans s9, hi', ?_⟩
            rw [← cutN_snoc hk]
            exact ats_snoc0 (e.same s9) h9
        · rintro acc H9 ⟨s9, _, hac⟩ pn H10 f10 s10 e10
          rw [natsV_len, List.take_length] at hac
          walk_at "run"
          intro pg H11 f11 s11 e11
          walk_at "run"
          intro po H12 f12 s12 e12
          have sZ := s11.trans s12
          have sY := s9.trans (s10.trans sZ)
          refine q _ _ pb pn ps (sD.trans sY) (sC.free f8) ((sD.trans s9).free f10) (sB.free f7) ⟨po, pg, rfl, e12, ⟨pg, ub, acc, rfl, s12 _ _ e11, sY _ _ e8, g3.same (sD.trans sY), sZ _ _ e10, hac.same (s10.trans sZ)⟩, (s8.trans sY) _ _ e7⟩
def sp_cell (K : PySem.W.Frag) : Sp := fun vs H Q _ => ∃ (a : Addr) (ns : List Int) (k : Nat), vs = [.ref a, .int (k : Nat)] ∧ SqL K H a (ns.map V.int) ∧ ∀ z : Int, Q (.int z) H
theorem ok_law_cell_at (T : Txt K mg t) : FnOk P w K mg base CX0 1 t.a__law_cell_at t.fd__law_cell_at ["script", "k"] (sp_cell K) := by
  refine T.F__law_cell_at.ok sc_law_cell_at (fun vs H Q E h => ?_) (fun cdv A outer s H vs Q E hr h => ?_)
  · obtain ⟨a, ns, k, rfl, _⟩ := h
    rfl
  · obtain ⟨a, ns, k, rfl, hS, q⟩ := h
    refine ⟨_, (@pss_cons _ _ _ _ _ (@ps_if _ _ _ _ _ _ _ _ (@pt_cmpR _ _ _ _ _ _ _ _ op_lt (pv 1) (@pe_callB _ _ _ _ _ _ _ _ _ (kcl_len K) (by rfl) T.z_len bb_len (@pa_cons _ _ _ _ _ (pv 0) (@pa_nil _) (by rfl)) (by decide) (by decide) (by rfl) (by rfl)) (nomark _)) (@pss_one _ _ _ (@ps_ret _ _ _ _ (@pe_ix _ _ _ _ _ _ _ (kix_list K) (pv 0) (pv 1) (fun _ _ => rfl)))) (@pss_nil _))
      (@pss_one _ _ _ (@ps_ret _ _ _ _ (@pe_int _ _ _ _)))), ?_⟩
    walk_at "go"
    refine i_lenL hS ?_
    walk_at "run"
    refine ite2 (fun h => ?_) (fun h => ?_)
    · walk_at "run"
      have hk : k < ns.length := by
        have := of_decide_eq_true h
        rw [List.length_map] at this
        omega
      refine i_ixL hS (atI_nat (j := k) (v := .int ns[k]) (by simp [hk])) ?_
      exact q _
    · walk_at "run"
      exact q _
def sp_expr : Sp := fun vs H Q _ => ∃ (d : Int), vs = [.int d] ∧ ∀ v H' e, Same H H' → e.tr.At H' v [] → Ex.ok bxs e → Ex.h e ≤ 2 → Q v H'
theorem at2 (a b : V) (x : Int) : atI [a, b] (x % 2) = some a ∨ atI [a, b] (x % 2) = some b := by
  have h : x % 2 = 0 ∨ x % 2 = 1 := by omega
  rcases h with h | h <;> rw [h]
  · exact .inl rfl
  · exact .inr rfl
theorem at2k (x : Int) : ∃ k : Bool, atI [V.str (Str.ofString "plus"), V.str (Str.ofString "less")] (x % 2) = some (.str (markS k)) := by
  have h : x % 2 = 0 ∨ x % 2 = 1 := by omega
  rcases h with h | h <;> rw [h]
  · exact ⟨true, rfl⟩
  · exact ⟨false, rfl⟩
theorem at2k' (x : Int) : ∃ k : Bool, atI [V.str (Str.ofString "less"), V.str (Str.ofString "plus")] (x % 2) = some (.str (markS k)) := by
  have h : x % 2 = 0 ∨ x % 2 = 1 := by omega
  rcases h with h | h <;> rw [h]
  · exact ⟨false, rfl⟩
  · exact ⟨true, rfl⟩
theorem at2c (x : Int) : ∃ k : Bool, atI [V.str (Str.ofString "same"), V.str (Str.ofString "under")] (x % 2) = some (.str (markC k)) := by
  have h : x % 2 = 0 ∨ x % 2 = 1 := by omega
  rcases h with h | h <;> rw [h]
  · exact ⟨true, rfl⟩
  · exact ⟨false, rfl⟩
theorem at2b (x : Int) : ∃ n ∈ bxs, atI [V.str (Str.ofString "many"), V.str (Str.ofString "mana")] (x % 2) = some (.str n) := by
  have h : x % 2 = 0 ∨ x % 2 = 1 := by omega
  rcases h with h | h <;> rw [h]
  · exact ⟨_, by simp, rfl⟩
  · exact ⟨_, by simp, rfl⟩
theorem at3b (x : Int) : ∃ n ∈ bxs3, atI [V.str (Str.ofString "many"), V.str (Str.ofString "mana"), V.str (Str.ofString "mano")] (x % 3) = some (.str n) := by
  have h : x % 3 = 0 ∨ x % 3 = 1 ∨ x % 3 = 2 := by omega
  rcases h with h | h | h <;> rw [h]
  · exact ⟨_, by simp, rfl⟩
  · exact ⟨_, by simp, rfl⟩
  · exact ⟨_, by simp, rfl⟩
theorem at3s (a b c : Str) (x : Int) : ∃ n, atI [V.str a, V.str b, V.str c] (x % 3) = some (.str n) := by
  have h : x % 3 = 0 ∨ x % 3 = 1 ∨ x % 3 = 2 := by omega
  rcases h with h | h | h <;> rw [h]
  · exact ⟨_, rfl⟩
  · exact ⟨_, rfl⟩
  · exact ⟨_, rfl⟩
theorem num_at {H : Hp} {p : Addr} {i : Int} (e : H p = some (.tup [.str (Str.ofString "number"), .int i])) : (Ex.num i).tr.At H (.ref p) [] := tup2_at e str_at0 int_at
theorem box_at {H : Hp} {p : Addr} {i : Str} (e : H p = some (.tup [.str (Str.ofString "box"), .str i])) : (Ex.box i).tr.At H (.ref p) [] := tup2_at e str_at0 str_at0
theorem two_at {H : Hp} {p : Addr} {k : Bool} {a b : Ex} {u v : V} (e : H p = some (.tup [.str (markS k), u, v])) (ha : a.tr.At H u []) (hb : b.tr.At H v []) : (Ex.two k a b).tr.At H (.ref p) [] := tup3_at e str_at0 ha hb
theorem ok_law_expr (T : Txt K mg t) : FnOk P w K mg base CX0 1 t.a__law_expr t.fd__law_expr ["d"] sp_expr := by
  refine T.F__law_expr.ok sc_law_expr (fun vs H Q E h => ?_) (fun cdv A outer s H vs Q E hr h => ?_)
  · obtain ⟨d, rfl, _⟩ := h
    rfl
  · obtain ⟨d, rfl, q⟩ := h
    refine ⟨_, (@pss_cons _ _ _ _ _ (@ps_set _ _ 1 _ _ _ _ sc_law_expr.nd rfl (by first | exact Or.inl rfl | exact Or.inr rfl) (@pe_tupN _ _ _ _ _ (@pa_cons _ _ _ _ _ (@pe_str _ _ _ _) (@pa_cons _ _ _ _ _ (@pe_op _ _ _ _ _ _ _ _ op_mod (@pe_op _ _ _ _ _ _ _ _ op_fdiv (pv 0) (@pe_int _ _ _ _)) (@pe_int _ _ _ _)) (@pa_nil _) (by rfl)) (by rfl))) (by rfl) (by first | exact Or.inl rfl | exact Or.inr rfl))
      (@pss_consC _ _ _ _ _ (@ps_if _ _ _ _ _ _ _ _ (@pt_cmpR _ _ _ _ _ _ _ _ op_eq (@pe_op _ _ _ _ _ _ _ _ op_mod (@pe_op _ _ _ _ _ _ _ _ op_fdiv (pv 0) (@pe_int _ _ _ _)) (@pe_int _ _ _ _)) (@pe_int _ _ _ _) (nomark _)) (@pss_one _ _ _ (@ps_set _ _ 1 _ _ _ _ sc_law_expr.nd rfl (by first | exact Or.inl rfl | exact Or.inr rfl) (@pe_tupN _ _ _ _ _ (@pa_cons _ _ _ _ _ (@pe_str _ _ _ _) (@pa_cons _ _ _ _ _ (@pe_ix _ _ _ _ _ _ _ (kix_list K) (@pe_lstN _ _ _ _ (@pa_cons _ _ _ _ _ (@pe_str _ _ _ _) (@pa_cons _ _ _ _ _ (@pe_str _ _ _ _) (@pa_nil _) (by rfl)) (by rfl))) (@pe_op _ _ _ _ _ _ _ _ op_mod (@pe_op _ _ _ _ _ _ _ _ op_fdiv (pv 0) (@pe_int _ _ _ _)) (@pe_int _ _ _ _)) (fun _ _ => rfl)) (@pa_nil _) (by rfl)) (by rfl))) (by rfl) (by first | exact Or.inl rfl | exact Or.inr rfl))) (@pss_nil _))
      (@pss_cons _ _ _ _ _ (@ps_if _ _ _ _ _ _ _ _ (@pt_cmpR _ _ _ _ _ _ _ _ op_lt (@pe_op _ _ _ _ _ _ _ _ op_mod (pv 0) (@pe_int _ _ _ _)) (@pe_int _ _ _ _) (nomark _)) (@pss_one _ _ _ (@ps_ret _ _ _ _ (pv 1))) (@pss_nil _))
      (@pss_cons _ _ _ _ _ (@ps_set _ _ 2 _ _ _ _ sc_law_expr.nd rfl (by first | exact Or.inl rfl | exact Or.inr rfl) (@pe_ix _ _ _ _ _ _ _ (kix_list K) (@pe_lstN _ _ _ _ (@pa_cons _ _ _ _ _ (@pe_str _ _ _ _) (@pa_cons _ _ _ _ _ (@pe_str _ _ _ _) (@pa_nil _) (by rfl)) (by rfl))) (@pe_op _ _ _ _ _ _ _ _ op_mod (@pe_op _ _ _ _ _ _ _ _ op_fdiv (pv 0) (@pe_int _ _ _ _)) (@pe_int _ _ _ _)) (fun _ _ => rfl)) (by rfl) (by first | exact Or.inl rfl | exact Or.inr rfl))
      (@pss_cons _ _ _ _ _ (@ps_if _ _ _ _ _ _ _ _ (@pt_cmpR _ _ _ _ _ _ _ _ op_eq (@pe_op _ _ _ _ _ _ _ _ op_mod (pv 0) (@pe_int _ _ _ _)) (@pe_int _ _ _ _) (nomark _)) (@pss_one _ _ _ (@ps_ret _ _ _ _ (@pe_tupN _ _ _ _ _ (@pa_cons _ _ _ _ _ (pv 2) (@pa_cons _ _ _ _ _ (pv 1) (@pa_cons _ _ _ _ _ (@pe_tupN _ _ _ _ _ (@pa_cons _ _ _ _ _ (@pe_str _ _ _ _) (@pa_cons _ _ _ _ _ (@pe_op _ _ _ _ _ _ _ _ op_mod (@pe_op _ _ _ _ _ _ _ _ op_fdiv (pv 0) (@pe_int _ _ _ _)) (@pe_int _ _ _ _)) (@pa_nil _) (by rfl)) (by rfl))) (@pa_nil _) (by rfl)) (by rfl)) (by rfl))))) (@pss_nil _))
      (@pss_cons _ _ _ _ _ (@ps_set _ _ 3 _ _ _ _ sc_law_expr.nd rfl (by first | exact Or.inl rfl | exact Or.inr rfl) (@pe_tupN _ _ _ _ _ (@pa_cons _ _ _ _ _ (@pe_ix _ _ _ _ _ _ _ (kix_list K) (@pe_lstN _ _ _ _ (@pa_cons _ _ _ _ _ (@pe_str _ _ _ _) (@pa_cons _ _ _ _ _ (@pe_str _ _ _ _) (@pa_nil _) (by rfl)) (by rfl))) (@pe_op _ _ _ _ _ _ _ _ op_mod (@pe_op _ _ _ _ _ _ _ _ op_fdiv (pv 0) (@pe_int _ _ _ _)) (@pe_int _ _ _ _)) (fun _ _ => rfl)) (@pa_cons _ _ _ _ _ (pv 1) (@pa_cons _ _ _ _ _ (@pe_tupN _ _ _ _ _ (@pa_cons _ _ _ _ _ (@pe_str _ _ _ _) (@pa_cons _ _ _ _ _ (@pe_op _ _ _ _ _ _ _ _ op_mod (@pe_op _ _ _ _ _ _ _ _ op_fdiv (pv 0) (@pe_int _ _ _ _)) (@pe_int _ _ _ _)) (@pa_nil _) (by rfl)) (by rfl))) (@pa_nil _) (by rfl)) (by rfl)) (by rfl))) (by rfl) (by first | exact Or.inl rfl | exact Or.inr rfl))
      (@pss_cons _ _ _ _ _ (@ps_if _ _ _ _ _ _ _ _ (@pt_cmpR _ _ _ _ _ _ _ _ op_eq (@pe_op _ _ _ _ _ _ _ _ op_mod (@pe_op _ _ _ _ _ _ _ _ op_fdiv (pv 0) (@pe_int _ _ _ _)) (@pe_int _ _ _ _)) (@pe_int _ _ _ _) (nomark _)) (@pss_one _ _ _ (@ps_ret _ _ _ _ (@pe_tupN _ _ _ _ _ (@pa_cons _ _ _ _ _ (pv 2) (@pa_cons _ _ _ _ _ (@pe_tupN _ _ _ _ _ (@pa_cons _ _ _ _ _ (@pe_str _ _ _ _) (@pa_cons _ _ _ _ _ (@pe_op _ _ _ _ _ _ _ _ op_mod (@pe_op _ _ _ _ _ _ _ _ op_fdiv (pv 0) (@pe_int _ _ _ _)) (@pe_int _ _ _ _)) (@pa_nil _) (by rfl)) (by rfl))) (@pa_cons _ _ _ _ _ (pv 3) (@pa_nil _) (by rfl)) (by rfl)) (by rfl))))) (@pss_nil _))
      (@pss_one _ _ _ (@ps_ret _ _ _ _ (@pe_tupN _ _ _ _ _ (@pa_cons _ _ _ _ _ (pv 2) (@pa_cons _ _ _ _ _ (pv 3) (@pa_cons _ _ _ _ _ (@pe_tupN _ _ _ _ _ (@pa_cons _ _ _ _ _ (@pe_str _ _ _ _) (@pa_cons _ _ _ _ _ (@pe_op _ _ _ _ _ _ _ _ op_mod (@pe_op _ _ _ _ _ _ _ _ op_fdiv (pv 0) (@pe_int _ _ _ _)) (@pe_int _ _ _ _)) (@pa_nil _) (by rfl)) (by rfl))) (@pa_nil _) (by rfl)) (by rfl)) (by rfl)))))))))))), ?_⟩
    walk_at "go"
    intro p1 H1 f1 s1 e1
    walk_at "run"
    refine i_seqC (fun σ' H' => ∃ v e, σ' = [some (.int d), some v, none, none] ∧ Same H H' ∧ Tr.At H' (Ex.tr e) v [] ∧ Ex.ok bxs e ∧ Ex.h e = 0) ?_ ?_
    · walk_at "run"
      refine ite2 (fun h => ?_) (fun h => ?_)
      · walk_at "run"
        intro p2 H2 f2 s2 e2
        walk_at "run"
        obtain ⟨n, hn, hx⟩ := at2b (d / 160)
        refine i_ixL (SqL.of e2) hx ?_
        walk_at "run"
        intro p3 H3 f3 s3 e3
        walk_at "run"
        exact ⟨_, .box n, rfl, s1.trans (s2.trans s3), box_at e3, hn, rfl⟩
      · walk_at "run"
        exact ⟨_, .num _, rfl, s1, num_at e1, ⟨by omega, by omega⟩, rfl⟩
    · rintro σ' H2 ⟨v, e, rfl, s2, he, hok, hh⟩
      walk_at "run"
      refine ite2 (fun h => ?_) (fun h => ?_)
      · walk_at "run"
        exact q v H2 e s2 he hok (by omega)
      walk_at "run"
      intro p3 H3 f3 s3 e3
      walk_at "run"
      obtain ⟨k, hk⟩ := at2k (d / 4)
      refine i_ixL (SqL.of e3) hk ?_
      walk_at "run"
      refine ite2 (fun h2 => ?_) (fun h2 => ?_)
      · walk_at "run"
        intro p4 H4 f4 s4 e4
        walk_at "run"
        intro p5 H5 f5 s5 e5
        have sA := s3.trans (s4.trans s5)
        exact q _ H5 (.two k e (.num _)) (s2.trans sA) (two_at e5 (he.same sA) ((num_at e4).same s5)) ⟨hok, by omega, by omega⟩ (by simp [Ex.h, hh])
      walk_at "run"
      intro p4 H4 f4 s4 e4
      walk_at "run"
      obtain ⟨k2, hk2⟩ := at2k' (d / 320)
      refine i_ixL (SqL.of e4) hk2 ?_
      walk_at "run"
      intro p5 H5 f5 s5 e5
      walk_at "run"
      intro p6 H6 f6 s6 e6
      walk_at "run"
      have sA := s3.trans (s4.trans (s5.trans s6))
      have hpt : (Ex.two k2 e (.num (d / 640 % 10))).tr.At H6 (.ref p6) [] := two_at e6 (he.same sA) ((num_at e5).same s6)
      refine ite2 (fun h3 => ?_) (fun h3 => ?_)
      · walk_at "run"
        intro p7 H7 f7 s7 e7
        walk_at "run"
        intro p8 H8 f8 s8 e8
        exact q _ H8 (.two k (.num _) (.two k2 e (.num _))) (s2.trans (sA.trans (s7.trans s8))) (two_at e8 ((num_at e7).same s8) (hpt.same (s7.trans s8))) ⟨⟨by omega, by omega⟩, hok, by omega, by omega⟩ (by simp [Ex.h, hh])
      · walk_at "run"
        intro p7 H7 f7 s7 e7
        walk_at "run"
        intro p8 H8 f8 s8 e8
        exact q _ H8 (.two k (.two k2 e (.num _)) (.num _)) (s2.trans (sA.trans (s7.trans s8))) (two_at e8 (hpt.same (s7.trans s8)) ((num_at e7).same s8)) ⟨⟨hok, by omega, by omega⟩, by omega, by omega⟩ (by simp [Ex.h, hh])
def sp_cond : Sp := fun vs H Q _ => ∃ (d : Int), vs = [.int d] ∧ ∀ v H' c, Same H H' → Tr.At H' (Cd.tr c) v [] → Cd.ok bxs 5 c → Cd.h c ≤ 3 → Q v H'
theorem cmp_at {H : Hp} {p : Addr} {k : Bool} {a b : Ex} {u v : V} (e : H p = some (.tup [.str (markC k), u, v])) (ha : a.tr.At H u []) (hb : b.tr.At H v []) : (Cd.cmp k a b).tr.At H (.ref p) [] := tup3_at e str_at0 ha hb
theorem nt_at {H : Hp} {p : Addr} {c : Cd} {u : V} (e : H p = some (.tup [.str (Str.ofString "not"), u])) (ha : c.tr.At H u []) : (Cd.nt c).tr.At H (.ref p) [] := tup2_at e str_at0 ha
theorem both_at {H : Hp} {p : Addr} {c d : Cd} {u v : V} (e : H p = some (.tup [.str (Str.ofString "both"), u, v])) (ha : c.tr.At H u []) (hb : d.tr.At H v []) : (Cd.both c d).tr.At H (.ref p) [] := tup3_at e str_at0 ha hb
theorem ok_law_cond (T : Txt K mg t) : FnOk P w K mg base CX0 2 t.a__law_cond t.fd__law_cond ["d"] sp_cond := by
  have G__law_expr := ok_law_expr (P := P) (w := w) (base := base) T
  refine T.F__law_cond.ok sc_law_cond (fun vs H Q E h => ?_) (fun cdv A outer s H vs Q E hr h => ?_)
  · obtain ⟨d, rfl, _⟩ := h
    rfl
  · obtain ⟨d, rfl, q⟩ := h
    refine ⟨_, (@pss_cons _ _ _ _ _ (@ps_set _ _ 1 _ _ _ _ sc_law_cond.nd rfl (by first | exact Or.inl rfl | exact Or.inr rfl) (@pe_tupN _ _ _ _ _ (@pa_cons _ _ _ _ _ (@pe_ix _ _ _ _ _ _ _ (kix_list K) (@pe_lstN _ _ _ _ (@pa_cons _ _ _ _ _ (@pe_str _ _ _ _) (@pa_cons _ _ _ _ _ (@pe_str _ _ _ _) (@pa_nil _) (by rfl)) (by rfl))) (@pe_op _ _ _ _ _ _ _ _ op_mod (@pe_op _ _ _ _ _ _ _ _ op_fdiv (pv 0) (@pe_int _ _ _ _)) (@pe_int _ _ _ _)) (fun _ _ => rfl)) (@pa_cons _ _ _ _ _ (@pe_call _ _ _ _ _ _ _ _ _ _ _ _ _ _ _ _ G__law_expr (hr.mono (by omega)) rfl T.m__law_expr T.F__law_expr.kp T.b__law_expr .nil pass0 (@pa_cons _ _ _ _ _ (@pe_op _ _ _ _ _ _ _ _ op_fdiv (pv 0) (@pe_int _ _ _ _)) (@pa_nil _) (by rfl)) (by decide) (by rfl) (by rfl)) (@pa_cons _ _ _ _ _ (@pe_call _ _ _ _ _ _ _ _ _ _ _ _ _ _ _ _ G__law_expr (hr.mono (by omega)) rfl T.m__law_expr T.F__law_expr.kp T.b__law_expr .nil pass0 (@pa_cons _ _ _ _ _ (@pe_op _ _ _ _ _ _ _ _ op_fdiv (pv 0) (@pe_int _ _ _ _)) (@pa_nil _) (by rfl)) (by decide) (by rfl) (by rfl)) (@pa_nil _) (by rfl)) (by rfl)) (by rfl))) (by rfl) (by first | exact Or.inl rfl | exact Or.inr rfl))
      (@pss_cons _ _ _ _ _ (@ps_set _ _ 2 _ _ _ _ sc_law_cond.nd rfl (by first | exact Or.inl rfl | exact Or.inr rfl) (@pe_tupN _ _ _ _ _ (@pa_cons _ _ _ _ _ (@pe_str _ _ _ _) (@pa_cons _ _ _ _ _ (@pe_tupN _ _ _ _ _ (@pa_cons _ _ _ _ _ (@pe_str _ _ _ _) (@pa_cons _ _ _ _ _ (@pe_op _ _ _ _ _ _ _ _ op_mod (@pe_op _ _ _ _ _ _ _ _ op_fdiv (pv 0) (@pe_int _ _ _ _)) (@pe_int _ _ _ _)) (@pa_nil _) (by rfl)) (by rfl))) (@pa_cons _ _ _ _ _ (@pe_tupN _ _ _ _ _ (@pa_cons _ _ _ _ _ (@pe_str _ _ _ _) (@pa_cons _ _ _ _ _ (@pe_op _ _ _ _ _ _ _ _ op_mod (@pe_op _ _ _ _ _ _ _ _ op_fdiv (pv 0) (@pe_int _ _ _ _)) (@pe_int _ _ _ _)) (@pa_nil _) (by rfl)) (by rfl))) (@pa_nil _) (by rfl)) (by rfl)) (by rfl))) (by rfl) (by first | exact Or.inl rfl | exact Or.inr rfl))
      (@pss_cons _ _ _ _ _ (@ps_if _ _ _ _ _ _ _ _ (@pt_cmpR _ _ _ _ _ _ _ _ op_lt (@pe_op _ _ _ _ _ _ _ _ op_mod (pv 0) (@pe_int _ _ _ _)) (@pe_int _ _ _ _) (nomark _)) (@pss_one _ _ _ (@ps_ret _ _ _ _ (pv 1))) (@pss_nil _))
      (@pss_cons _ _ _ _ _ (@ps_if _ _ _ _ _ _ _ _ (@pt_cmpR _ _ _ _ _ _ _ _ op_eq (@pe_op _ _ _ _ _ _ _ _ op_mod (pv 0) (@pe_int _ _ _ _)) (@pe_int _ _ _ _) (nomark _)) (@pss_one _ _ _ (@ps_ret _ _ _ _ (@pe_tupN _ _ _ _ _ (@pa_cons _ _ _ _ _ (@pe_str _ _ _ _) (@pa_cons _ _ _ _ _ (pv 1) (@pa_nil _) (by rfl)) (by rfl))))) (@pss_nil _))
      (@pss_cons _ _ _ _ _ (@ps_if _ _ _ _ _ _ _ _ (@pt_cmpR _ _ _ _ _ _ _ _ op_eq (@pe_op _ _ _ _ _ _ _ _ op_mod (pv 0) (@pe_int _ _ _ _)) (@pe_int _ _ _ _) (nomark _)) (@pss_one _ _ _ (@ps_ret _ _ _ _ (@pe_tupN _ _ _ _ _ (@pa_cons _ _ _ _ _ (@pe_str _ _ _ _) (@pa_cons _ _ _ _ _ (pv 1) (@pa_cons _ _ _ _ _ (pv 2) (@pa_nil _) (by rfl)) (by rfl)) (by rfl))))) (@pss_nil _))
      (@pss_one _ _ _ (@ps_ret _ _ _ _ (@pe_tupN _ _ _ _ _ (@pa_cons _ _ _ _ _ (@pe_str _ _ _ _) (@pa_cons _ _ _ _ _ (@pe_tupN _ _ _ _ _ (@pa_cons _ _ _ _ _ (@pe_str _ _ _ _) (@pa_cons _ _ _ _ _ (pv 2) (@pa_cons _ _ _ _ _ (pv 1) (@pa_nil _) (by rfl)) (by rfl)) (by rfl))) (@pa_nil _) (by rfl)) (by rfl)))))))))), ?_⟩
    walk_at "go"
    intro p1 H1 f1 s1 e1
    walk_at "run"
    obtain ⟨k, hk⟩ := at2c (d / 5)
    refine i_ixL (SqL.of e1) hk ?_
    walk_at "run"
    refine ⟨_, rfl, fun v2 H2 x s2 hx okx hhx => ?_⟩
    walk_at "run"
    refine ⟨_, rfl, fun v3 H3 y s3 hy oky hhy => ?_⟩
    walk_at "run"
    intro p4 H4 f4 s4 e4
    walk_at "run"
    intro p5 H5 f5 s5 e5
    walk_at "run"
    intro p6 H6 f6 s6 e6
    walk_at "run"
    intro p7 H7 f7 s7 e7
    walk_at "run"
    have hone : (Cd.cmp k x y).tr.At H4 (.ref p4) [] := cmp_at e4 (hx.same (s3.trans s4)) (hy.same s4)
    have s47 := s5.trans (s6.trans s7)
    have hone7 := hone.same s47
    have hoth : (Cd.cmp false (.num (d / 7 % 4)) (.num (d / 29 % 4))).tr.At H7 (.ref p7) [] := cmp_at e7 ((num_at e5).same (s6.trans s7)) ((num_at e6).same s7)
    have sA := s1.trans (s2.trans (s3.trans (s4.trans s47)))
    have ok1 : (Cd.cmp k x y).ok bxs 5 := ⟨⟨okx, by omega⟩, oky, by omega⟩
    have ok2 : (Cd.cmp false (.num (d / 7 % 4)) (.num (d / 29 % 4))).ok bxs 5 := ⟨⟨⟨by omega, by omega⟩, Nat.zero_le _⟩, ⟨by omega, by omega⟩, Nat.zero_le _⟩
    refine ite2 (fun h1 => ?_) (fun h1 => ?_)
    · walk_at "run"
      exact q _ H7 _ sA hone7 ok1 (by simp [Cd.h])
    walk_at "run"
    refine ite2 (fun h2 => ?_) (fun h2 => ?_)
    · walk_at "run"
      intro p8 H8 f8 s8 e8
      exact q _ H8 (.nt _) (sA.trans s8) (nt_at e8 (hone7.same s8)) ok1 (by simp [Cd.h])
    walk_at "run"
    refine ite2 (fun h3 => ?_) (fun h3 => ?_)
    · walk_at "run"
      intro p8 H8 f8 s8 e8
      exact q _ H8 (.both _ _) (sA.trans s8) (both_at e8 (hone7.same s8) (hoth.same s8)) ⟨ok1, ok2⟩ (by simp [Cd.h])
    · walk_at "run"
      intro p8 H8 f8 s8 e8
      walk_at "run"
      intro p9 H9 f9 s9 e9
      exact q _ H9 (.nt (.both _ _)) (sA.trans (s8.trans s9)) (nt_at e9 ((both_at e8 (hoth.same s8) (hone7.same s8)).same s9)) ⟨ok2, ok1⟩ (by simp [Cd.h])
def sp_wait : Sp := fun vs H Q _ => ∃ (d : Int) (number low high n : Nat), vs = [.int d, .int (number : Nat), .int (low : Nat), .int (high : Nat)] ∧ low ≤ number ∧ number < high ∧ high ≤ n ∧ n ≤ 100 ∧ ∀ v H' nd, Same H H' → Tr.At H' (Nd.tr nd) v [] → nd.okAt n number → Q v H'
def pats : List (List Pt) := [[.s "key", .i 0], [.s "key", .i 1], [.s "word", .s "a"], [.s "word", .s "b"], [.s "other"]]
theorem pats_at {H : Hp} {a b c d e : Addr} (ha : H a = some (.tup [.str (Str.ofString "key"), .int 0])) (hb : H b = some (.tup [.str (Str.ofString "key"), .int 1])) (hc : H c = some (.tup [.str (Str.ofString "word"), .str (Str.ofString "a")])) (hd : H d = some (.tup [.str (Str.ofString "word"), .str (Str.ofString "b")])) (he : H e = some (.tup [.str (Str.ofString "other")])) :
    Tr.Ats H (pats.map fun p => Tr.tup (p.map Pt.tr)) [.ref a, .ref b, .ref c, .ref d, .ref e] [] :=
  ats_cons0.mpr ⟨_, _, rfl, tup2_at ha str_at0 int_at, ats_cons0.mpr ⟨_, _, rfl, tup2_at hb str_at0 int_at, ats_cons0.mpr ⟨_, _, rfl, tup2_at hc str_at0 str_at0, ats_cons0.mpr ⟨_, _, rfl, tup2_at hd str_at0 str_at0, ats_cons0.mpr ⟨_, _, rfl, tup1_at he str_at0, ats_nil0.mpr rfl⟩⟩⟩⟩⟩
theorem pats_get {H : Hp} {vs : List V} (h : Tr.Ats H (pats.map fun p => Tr.tup (p.map Pt.tr)) vs []) (x : Int) : ∃ (v : V) (p : List Pt), atI vs (x % 5) = some v ∧ (Tr.tup (p.map Pt.tr)).At H v [] := by
  have hl : vs.length = 5 := h.len
  obtain ⟨m, hm⟩ : ∃ m : Nat, x % 5 = (m : Nat) := Int.eq_ofNat_of_zero_le (by omega)
  have hm5 : m < vs.length := by omega
  obtain ⟨t, ht, h2⟩ := ats_get0 h (List.getElem?_eq_getElem hm5)
  rw [List.getElem?_map] at ht
  cases e : pats[m]? with
  | none => rw [e] at ht; cases ht
  | some p =>
    rw [e] at ht
    obtain rfl : Tr.tup (p.map Pt.tr) = t := Option.some.inj ht
    exact ⟨_, p, by rw [hm]; exact atI_nat (List.getElem?_eq_getElem hm5), h2⟩
theorem mod_nat (low high : Nat) (h : low < high) (r : Int) : ∃ k : Nat, (low : Int) + r % ((high : Int) - (low : Int)) = (k : Nat) ∧ k < high := by
  have h1 := Int.emod_nonneg r (show (high : Int) - (low : Int) ≠ 0 by omega)
  have h2 := Int.emod_lt_of_pos r (show (0 : Int) < (high : Int) - (low : Int) by omega)
  exact ⟨((low : Int) + r % ((high : Int) - (low : Int))).toNat, by omega, by omega⟩
theorem br_tup {H : Hp} {p : Addr} {u : V} {k : Nat} {ps : List Pt} (e : H p = some (.tup [u, .int (k : Nat)])) (h : (Tr.tup (ps.map Pt.tr)).At H u []) : (brT (ps, k)).At H (.ref p) [] := tup2_at e h int_at
theorem ok_law_wait (T : Txt K mg t) : FnOk P w K mg base CX0 1 t.a__law_wait t.fd__law_wait ["d", "number", "low", "high"] sp_wait := by
  refine T.F__law_wait.ok sc_law_wait (fun vs H Q E h => ?_) (fun cdv A outer s H vs Q E hr h => ?_)
  · obtain ⟨d, number, low, high, n, rfl, _⟩ := h
    rfl
  · obtain ⟨d, number, low, high, n, rfl, h1, h2, h3, h4, q⟩ := h
    refine ⟨_, (@pss_cons _ _ _ _ _ (@ps_set _ _ 4 _ _ _ _ sc_law_wait.nd rfl (by first | exact Or.inl rfl | exact Or.inr rfl) (@pe_lstN _ _ _ _ (@pa_cons _ _ _ _ _ (@pe_tupN _ _ _ _ _ (@pa_cons _ _ _ _ _ (@pe_str _ _ _ _) (@pa_cons _ _ _ _ _ (@pe_int _ _ _ _) (@pa_nil _) (by rfl)) (by rfl))) (@pa_cons _ _ _ _ _ (@pe_tupN _ _ _ _ _ (@pa_cons _ _ _ _ _ (@pe_str _ _ _ _) (@pa_cons _ _ _ _ _ (@pe_int _ _ _ _) (@pa_nil _) (by rfl)) (by rfl))) (@pa_cons _ _ _ _ _ (@pe_tupN _ _ _ _ _ (@pa_cons _ _ _ _ _ (@pe_str _ _ _ _) (@pa_cons _ _ _ _ _ (@pe_str _ _ _ _) (@pa_nil _) (by rfl)) (by rfl))) (@pa_cons _ _ _ _ _ (@pe_tupN _ _ _ _ _ (@pa_cons _ _ _ _ _ (@pe_str _ _ _ _) (@pa_cons _ _ _ _ _ (@pe_str _ _ _ _) (@pa_nil _) (by rfl)) (by rfl))) (@pa_cons _ _ _ _ _ (@pe_tupN _ _ _ _ _ (@pa_cons _ _ _ _ _ (@pe_str _ _ _ _) (@pa_nil _) (by rfl))) (@pa_nil _) (by rfl)) (by rfl)) (by rfl)) (by rfl)) (by rfl))) (by rfl) (by first | exact Or.inl rfl | exact Or.inr rfl))
      (@pss_cons _ _ _ _ _ (@ps_set _ _ 5 _ _ _ _ sc_law_wait.nd rfl (by first | exact Or.inl rfl | exact Or.inr rfl) (@pe_lstN _ _ _ _ (@pa_nil _)) (by rfl) (by first | exact Or.inl rfl | exact Or.inr rfl))
      (@pss_cons _ _ _ _ _ (@ps_set _ _ 6 _ _ _ _ sc_law_wait.nd rfl (by first | exact Or.inl rfl | exact Or.inr rfl) (@pe_op _ _ _ _ _ _ _ _ op_fdiv (pv 0) (@pe_int _ _ _ _)) (by rfl) (by first | exact Or.inl rfl | exact Or.inr rfl))
      (@pss_cons _ _ _ _ _ (@ps_for _ _ _ _ _ _ _ _ PassesOwn.never rfl (pi_range1 rfl T.z_range (@pa_cons _ _ _ _ _ (@pe_op _ _ _ _ _ _ _ _ op_mod (@pe_op _ _ _ _ _ _ _ _ op_fdiv (pv 0) (@pe_int _ _ _ _)) (@pe_int _ _ _ _)) (@pa_nil _) (by rfl))) (pg_name (i := 7) sc_law_wait.nd rfl (by first | exact Or.inl rfl | exact Or.inr rfl)) (@pss_cons _ _ _ _ _ (@ps_set _ _ 8 _ _ _ _ sc_law_wait.nd rfl (by first | exact Or.inl rfl | exact Or.inr rfl) (@pe_ix _ _ _ _ _ _ _ (kix_list K) (pv 4) (@pe_op _ _ _ _ _ _ _ _ op_mod (@pe_op _ _ _ _ _ _ _ _ op_plus (@pe_op _ _ _ _ _ _ _ _ op_fdiv (pv 0) (@pe_int _ _ _ _)) (@pe_op _ _ _ _ _ _ _ _ op_times (pv 7) (@pe_op _ _ _ _ _ _ _ _ op_plus (@pe_int _ _ _ _) (@pe_op _ _ _ _ _ _ _ _ op_mod (@pe_op _ _ _ _ _ _ _ _ op_fdiv (pv 0) (@pe_int _ _ _ _)) (@pe_int _ _ _ _))))) (@pe_int _ _ _ _)) (fun _ _ => rfl)) (by rfl) (by first | exact Or.inl rfl | exact Or.inr rfl))
        (@pss_cons _ _ _ _ _ (@ps_expr _ _ _ _ (@kpe_bm _ K _ _ _ _ _ _ _ _ _ _ _ PySem.F.plainAttrs_list PySem.F.slot_list_append PySem.F.type_list_append mt_append (pv 5) (@pa_cons _ _ _ _ _ (@pe_tupN _ _ _ _ _ (@pa_cons _ _ _ _ _ (pv 8) (@pa_cons _ _ _ _ _ (@pe_op _ _ _ _ _ _ _ _ op_plus (pv 2) (@pe_op _ _ _ _ _ _ _ _ op_mod (pv 6) (@pe_op _ _ _ _ _ _ _ _ op_sub (pv 3) (pv 2)))) (@pa_nil _) (by rfl)) (by rfl))) (@pa_nil _) (by rfl)) (by rfl) (by rfl) (by rfl) (by rfl) (by rfl) (by rfl)) (by rfl))
        (@pss_one _ _ _ (@ps_set _ _ 6 _ _ _ _ sc_law_wait.nd rfl (by first | exact Or.inl rfl | exact Or.inr rfl) (@pe_op _ _ _ _ _ _ _ _ op_fdiv (pv 6) (@pe_int _ _ _ _)) (by rfl) (by first | exact Or.inl rfl | exact Or.inr rfl))))) (by intro _; rfl))
      (@pss_cons _ _ _ _ _ (@ps_if _ _ _ _ _ _ _ _ (@pt_cmpR _ _ _ _ _ _ _ _ op_eq (@pe_op _ _ _ _ _ _ _ _ op_mod (pv 0) (@pe_int _ _ _ _)) (@pe_int _ _ _ _) (nomark _)) (@pss_one _ _ _ (@ps_ret _ _ _ _ (@pe_tupN _ _ _ _ _ (@pa_cons _ _ _ _ _ (@pe_str _ _ _ _) (@pa_cons _ _ _ _ _ (@pe_int _ _ _ _) (@pa_cons _ _ _ _ _ (@pe_callTy _ _ _ _ _ _ _ _ _ (kcl_tuple K) (by rfl) T.z_tuple bb_tuple (@pa_cons _ _ _ _ _ (pv 5) (@pa_nil _) (by rfl)) (by decide) (by decide) (by rfl) (by rfl)) (@pa_cons _ _ _ _ _ (pv 1) (@pa_nil _) (by rfl)) (by rfl)) (by rfl)) (by rfl))))) (@pss_nil _))
      (@pss_one _ _ _ (@ps_ret _ _ _ _ (@pe_tupN _ _ _ _ _ (@pa_cons _ _ _ _ _ (@pe_str _ _ _ _) (@pa_cons _ _ _ _ _ (@pe_op _ _ _ _ _ _ _ _ op_mod (pv 0) (@pe_int _ _ _ _)) (@pa_cons _ _ _ _ _ (@pe_callTy _ _ _ _ _ _ _ _ _ (kcl_tuple K) (by rfl) T.z_tuple bb_tuple (@pa_cons _ _ _ _ _ (pv 5) (@pa_nil _) (by rfl)) (by decide) (by decide) (by rfl) (by rfl)) (@pa_cons _ _ _ _ _ (@pe_op _ _ _ _ _ _ _ _ op_plus (pv 2) (@pe_op _ _ _ _ _ _ _ _ op_mod (@pe_op _ _ _ _ _ _ _ _ op_fdiv (pv 0) (@pe_int _ _ _ _)) (@pe_op _ _ _ _ _ _ _ _ op_sub (pv 3) (pv 2)))) (@pa_nil _) (by rfl)) (by rfl)) (by rfl)) (by rfl)))))))))), ?_⟩
    walk_at "go"
    intro p1 H1 f1 s1 e1
    walk_at "run"
    intro p2 H2 f2 s2 e2
    walk_at "run"
    intro p3 H3 f3 s3 e3
    walk_at "run"
    intro p4 H4 f4 s4 e4
    walk_at "run"
    intro p5 H5 f5 s5 e5
    walk_at "run"
    intro pl H6 f6 s6 e6
    walk_at "run"
    have s26 := s3.trans (s4.trans (s5.trans s6))
    have hpats : Tr.Ats H6 (pats.map fun p => Tr.tup (p.map Pt.tr)) [.ref p1, .ref p2, .ref p3, .ref p4, .ref p5] [] := pats_at (s26 _ _ (s2 _ _ e1)) (s26 _ _ e2) ((s4.trans (s5.trans s6)) _ _ e3) ((s5.trans s6) _ _ e4) (s6 _ _ e5)
    intro pb H7 f7 s7 e7
    walk_at "run"
    have s17 := s1.trans (s2.trans (s26.trans s7))
    have fb : H pb = none := (s1.trans (s2.trans s26)).free f7
    refine for_range (lo := 0) (n := (d / 4 % 4).toNat) (fun i σ H' => ∃ (bs : List (List Pt × Nat)) (acc : List V) (r : Int) (y1 y2 : Option V), σ = [some (.int d), some (.int (number : Nat)), some (.int (low : Nat)), some (.int (high : Nat)), some (.ref pl), some (.ref pb), some (.int r), y1, y2] ∧ Same H H' ∧ Tups H6 H' ∧ H' pl = some (.lst [.ref p1, .ref p2, .ref p3, .ref p4, .ref p5]) ∧ H' pb = some (.lst acc) ∧ Tr.Ats H' (bs.map brT) acc [] ∧ bs.length = i ∧ ∀ b ∈ bs, b.2 < high) ⟨[], [], _, _, _, rfl, s17, s7.tups, s7 _ _ e6, e7, ats_nil0.mpr rfl, rfl, by simp⟩ ?_ ?_
    · rintro i σ H8 hi ⟨bs, acc, r, y1, y2, rfl, s8, t8, hpl, hpb, hac, hbl, hbs⟩
      have hal : acc.length = i := by rw [hac.len, List.length_map, hbl]
      walk_at "run"
      refine i_timesI (.inr (.inl ⟨by omega, by omega⟩)) ?_
      walk_at "run"
      obtain ⟨v, ps, hv, hpt⟩ := pats_get (hpats.tups t8) (d / 16 + (0 + (i : Nat)) * (1 + d / 80 % 4))
      refine i_ixL (SqL.of hpl) hv ?_
      walk_at "run"
      refine i_tyL (SqL.of hpb) ?_
      walk_at "run"
      obtain ⟨k, hk, hkh⟩ := mod_nat low high (by omega) r
      rw [hk]
      intro p9 H9 f9 s9 e9
      walk_at "run"
      have hpb9 := s9 _ _ hpb
      refine i_append hpb9 (Nat.lt_of_lt_of_le (show acc.length < 1000000 by omega) (le_line (Nat.le_refl _))) ?_
      walk_at "run"
      have tU : Tups H8 (upd H9 pb (.lst (acc ++ [.ref p9]))) := s9.tups.trans (Tups.upd hpb9)
      refine ⟨bs ++ [(ps, k)], _, _, _, _, rfl, (s8.trans s9).updNew fb, t8.trans tU, ?_, upd_same, ?_, by simp [hbl], ?_⟩
      · have hne : pl ≠ pb := ne_of_none e6 f7
        rw [upd_ne hne]
        exact s9 _ _ hpl
      · rw [List.map_append]
        exact ats_snoc0 (hac.tups tU) ((br_tup e9 (hpt.same s9)).tups (Tups.upd hpb9))
      · intro b hb
        rcases List.mem_append.mp hb with hb | hb
        · exact hbs b hb
        · simp at hb
          rw [hb]
          exact hkh
    · rintro σ H8 ⟨bs, acc, r, y1, y2, rfl, s8, t8, hpl, hpb, hac, hbl, hbs⟩
      have hb3 : bs.length ≤ 3 := by omega
      walk_at "run"
      refine ite2 (fun hc => ?_) (fun hc => ?_)
      · walk_at "run"
        refine i_tupleL (SqL.of hpb) ?_
        intro p9 H9 f9 s9 e9
        walk_at "run"
        intro p10 H10 f10 s10 e10
        exact q _ H10 (.wait 0 bs number) (s8.trans (s9.trans s10)) (tup4_at e10 str_at0 int_at (at_tup0.mpr ⟨p9, acc, rfl, s10 _ _ e9, hac.same (s9.trans s10)⟩) int_at) ⟨fun b hb => Nat.lt_of_lt_of_le (hbs b hb) h3, by omega, hb3⟩
      · walk_at "run"
        refine i_tupleL (SqL.of hpb) ?_
        intro p9 H9 f9 s9 e9
        walk_at "run"
        obtain ⟨k, hk, hkh⟩ := mod_nat low high (by omega) (d / 160)
        rw [hk]
        intro p10 H10 f10 s10 e10
        exact q _ H10 (.wait (d % 4) bs k) (s8.trans (s9.trans s10)) (tup4_at e10 str_at0 int_at (at_tup0.mpr ⟨p9, acc, rfl, s10 _ _ e9, hac.same (s9.trans s10)⟩) int_at) ⟨fun b hb => Nat.lt_of_lt_of_le (hbs b hb) h3, by omega, hb3⟩
def sp_node : Sp := fun vs H Q _ => ∃ (cell : Int) (number low high deep n : Nat), vs = [.int cell, .int (number : Nat), .int (low : Nat), .int (high : Nat), .int (deep : Nat)] ∧ low ≤ number ∧ number < high ∧ high ≤ n ∧ n ≤ 100 ∧ (deep < 2 → high + 2 ≤ n) ∧ ∀ v H' nd, Same H H' → Tr.At H' (Nd.tr nd) v [] → nd.okAt n number → Q v H'
theorem min_nat (number high : Nat) (x : Int) (hx : 0 ≤ x) (h : number + 1 < high) : ∃ k : Nat, min ((number : Int) + 1 + x) ((high : Int) - 1) = (k : Nat) ∧ number < k ∧ k < high := by
  have h1 : (number : Int) + 1 ≤ min ((number : Int) + 1 + x) ((high : Int) - 1) := by omega
  have h2 : min ((number : Int) + 1 + x) ((high : Int) - 1) ≤ (high : Int) - 1 := by omega
  exact ⟨(min ((number : Int) + 1 + x) ((high : Int) - 1)).toNat, by omega, by omega, by omega⟩
theorem add_nat (high : Nat) (x : Int) : ∃ k : Nat, (high : Int) + x % 2 = (k : Nat) ∧ high ≤ k ∧ k < high + 2 := ⟨((high : Int) + x % 2).toNat, by omega, by omega, by omega⟩
theorem say_at {H : Hp} {p : Addr} {w : Str} {n : Nat} (e : H p = some (.tup [.str (Str.ofString "say"), .str w, .int (n : Nat)])) : (Nd.say w n).tr.At H (.ref p) [] := tup3_at e str_at0 str_at0 int_at
theorem hand_at {H : Hp} {p : Addr} {l : Int} {w : Str} {n : Nat} (e : H p = some (.tup [.str (Str.ofString "hand"), .int l, .str w, .int (n : Nat)])) : (Nd.hand l w n).tr.At H (.ref p) [] := tup4_at e str_at0 int_at str_at0 int_at
theorem put_at {H : Hp} {p : Addr} {b : Str} {x : Ex} {u : V} {n : Nat} (e : H p = some (.tup [.str (Str.ofString "put"), .str b, u, .int (n : Nat)])) (h : x.tr.At H u []) : (Nd.put b x n).tr.At H (.ref p) [] := tup4_at e str_at0 str_at0 h int_at
theorem test_mk {H : Hp} {p : Addr} {c : Cd} {u : V} {m n : Nat} (e : H p = some (.tup [.str (Str.ofString "test"), u, .int (m : Nat), .int (n : Nat)])) (h : c.tr.At H u []) : (Nd.test c m n).tr.At H (.ref p) [] := tup4_at e str_at0 h int_at int_at
theorem call_mk {H : Hp} {p : Addr} {m n : Nat} (e : H p = some (.tup [.str (Str.ofString "call"), .int (m : Nat), .int (n : Nat)])) : (Nd.call m n).tr.At H (.ref p) [] := tup3_at e str_at0 int_at int_at
theorem back_mk {H : Hp} {p : Addr} (e : H p = some (.tup [.str (Str.ofString "back")])) : Nd.back.tr.At H (.ref p) [] := tup1_at e str_at0
theorem stop_mk {H : Hp} {p : Addr} (e : H p = some (.tup [.str (Str.ofString "stop")])) : Nd.stop.tr.At H (.ref p) [] := tup1_at e str_at0
theorem ok_law_node (T : Txt K mg t) : FnOk P w K mg base CX0 3 t.a__law_node t.fd__law_node ["cell", "number", "low", "high", "deep"] sp_node := by
  have G__law_cond := ok_law_cond (P := P) (w := w) (base := base) T
  have G__law_expr := ok_law_expr (P := P) (w := w) (base := base) T
  have G__law_wait := ok_law_wait (P := P) (w := w) (base := base) T
  refine T.F__law_node.ok sc_law_node (fun vs H Q E h => ?_) (fun cdv A outer s H vs Q E hr h => ?_)
  · obtain ⟨cell, number, low, high, deep, n, rfl, _⟩ := h
    rfl
  · obtain ⟨cell, number, low, high, deep, n, rfl, h1, h2, h3, h4, h5, q⟩ := h
    refine ⟨_, (@pss_cons _ _ _ _ _ (@ps_set _ _ 5 _ _ _ _ sc_law_node.nd rfl (by first | exact Or.inl rfl | exact Or.inr rfl) (@pe_op _ _ _ _ _ _ _ _ op_mod (pv 0) (@pe_int _ _ _ _)) (by rfl) (by first | exact Or.inl rfl | exact Or.inr rfl))
      (@pss_cons _ _ _ _ _ (@ps_set _ _ 6 _ _ _ _ sc_law_node.nd rfl (by first | exact Or.inl rfl | exact Or.inr rfl) (@pe_op _ _ _ _ _ _ _ _ op_fdiv (pv 0) (@pe_int _ _ _ _)) (by rfl) (by first | exact Or.inl rfl | exact Or.inr rfl))
      (@pss_cons _ _ _ _ _ (@ps_set _ _ 7 _ _ _ _ sc_law_node.nd rfl (by first | exact Or.inl rfl | exact Or.inr rfl) (@pe_callB _ _ _ _ _ _ _ _ _ kcall_min2 (by rfl) T.z_min bb_min (@pa_cons _ _ _ _ _ (@pe_op _ _ _ _ _ _ _ _ op_plus (@pe_op _ _ _ _ _ _ _ _ op_plus (pv 1) (@pe_int _ _ _ _)) (@pe_op _ _ _ _ _ _ _ _ op_mod (pv 6) (@pe_int _ _ _ _))) (@pa_cons _ _ _ _ _ (@pe_op _ _ _ _ _ _ _ _ op_sub (pv 3) (@pe_int _ _ _ _)) (@pa_nil _) (by rfl)) (by rfl)) (by decide) (by decide) (by rfl) (by rfl)) (by rfl) (by first | exact Or.inl rfl | exact Or.inr rfl))
      (@pss_cons _ _ _ _ _ (@ps_if _ _ _ _ _ _ _ _ (@pt_pure _ _ _ (@PW.pt _ _ _ (@pw_or _ _ _ _ _ _ _ (@pt_cmpR _ _ _ _ _ _ _ _ op_eq (pv 1) (@pe_op _ _ _ _ _ _ _ _ op_sub (pv 3) (@pe_int _ _ _ _)) (nomark _)) (@pw_or1 _ _ _ _ (@pt_cmpR _ _ _ _ _ _ _ _ op_eq (pv 5) (@pe_int _ _ _ _) (nomark _)))))) (@pss_cons _ _ _ _ _ (@ps_if _ _ _ _ _ _ _ _ (@pt_pure _ _ _ (@PW.pt _ _ _ (@pw_and _ _ _ _ _ _ _ (@pt_cmpR _ _ _ _ _ _ _ _ op_gt (pv 4) (@pe_int _ _ _ _) (nomark _)) (@pw_and1 _ _ _ _ (@pt_cmpR _ _ _ _ _ _ _ _ op_eq (@pe_op _ _ _ _ _ _ _ _ op_mod (pv 6) (@pe_int _ _ _ _)) (@pe_int _ _ _ _) (nomark _)))))) (@pss_one _ _ _ (@ps_ret _ _ _ _ (@pe_tupN _ _ _ _ _ (@pa_cons _ _ _ _ _ (@pe_str _ _ _ _) (@pa_nil _) (by rfl))))) (@pss_nil _))
        (@pss_one _ _ _ (@ps_ret _ _ _ _ (@pe_ix _ _ _ _ _ _ _ (kix_list K) (@pe_lstN _ _ _ _ (@pa_cons _ _ _ _ _ (@pe_tupN _ _ _ _ _ (@pa_cons _ _ _ _ _ (@pe_str _ _ _ _) (@pa_nil _) (by rfl))) (@pa_cons _ _ _ _ _ (@pe_tupN _ _ _ _ _ (@pa_cons _ _ _ _ _ (@pe_str _ _ _ _) (@pa_nil _) (by rfl))) (@pa_cons _ _ _ _ _ (@pe_call _ _ _ _ _ _ _ _ _ _ _ _ _ _ _ _ G__law_wait (hr.mono (by omega)) rfl T.m__law_wait T.F__law_wait.kp T.b__law_wait .nil pass0 (@pa_cons _ _ _ _ _ (@pe_op _ _ _ _ _ _ _ _ op_fdiv (pv 6) (@pe_int _ _ _ _)) (@pa_cons _ _ _ _ _ (pv 1) (@pa_cons _ _ _ _ _ (pv 2) (@pa_cons _ _ _ _ _ (pv 3) (@pa_nil _) (by rfl)) (by rfl)) (by rfl)) (by rfl)) (by decide) (by rfl) (by rfl)) (@pa_nil _) (by rfl)) (by rfl)) (by rfl))) (@pe_op _ _ _ _ _ _ _ _ op_mod (pv 6) (@pe_int _ _ _ _)) (fun _ _ => rfl))))) (@pss_nil _))
      (@pss_cons _ _ _ _ _ (@ps_if _ _ _ _ _ _ _ _ (@pt_cmpR _ _ _ _ _ _ _ _ op_eq (pv 5) (@pe_int _ _ _ _) (nomark _)) (@pss_one _ _ _ (@ps_ret _ _ _ _ (@pe_tupN _ _ _ _ _ (@pa_cons _ _ _ _ _ (@pe_str _ _ _ _) (@pa_cons _ _ _ _ _ (@pe_ix _ _ _ _ _ _ _ (kix_list K) (@pe_lstN _ _ _ _ (@pa_cons _ _ _ _ _ (@pe_str _ _ _ _) (@pa_cons _ _ _ _ _ (@pe_str _ _ _ _) (@pa_cons _ _ _ _ _ (@pe_str _ _ _ _) (@pa_nil _) (by rfl)) (by rfl)) (by rfl))) (@pe_op _ _ _ _ _ _ _ _ op_mod (@pe_op _ _ _ _ _ _ _ _ op_fdiv (pv 6) (@pe_int _ _ _ _)) (@pe_int _ _ _ _)) (fun _ _ => rfl)) (@pa_cons _ _ _ _ _ (pv 7) (@pa_nil _) (by rfl)) (by rfl)) (by rfl))))) (@pss_nil _))
      (@pss_cons _ _ _ _ _ (@ps_if _ _ _ _ _ _ _ _ (@pt_cmpR _ _ _ _ _ _ _ _ op_eq (pv 5) (@pe_int _ _ _ _) (nomark _)) (@pss_one _ _ _ (@ps_ret _ _ _ _ (@pe_tupN _ _ _ _ _ (@pa_cons _ _ _ _ _ (@pe_str _ _ _ _) (@pa_cons _ _ _ _ _ (@pe_op _ _ _ _ _ _ _ _ op_mod (@pe_op _ _ _ _ _ _ _ _ op_fdiv (pv 6) (@pe_int _ _ _ _)) (@pe_int _ _ _ _)) (@pa_cons _ _ _ _ _ (@pe_str _ _ _ _) (@pa_cons _ _ _ _ _ (pv 7) (@pa_nil _) (by rfl)) (by rfl)) (by rfl)) (by rfl))))) (@pss_nil _))
      (@pss_cons _ _ _ _ _ (@ps_if _ _ _ _ _ _ _ _ (@pt_cmpR _ _ _ _ _ _ _ _ op_eq (pv 5) (@pe_int _ _ _ _) (nomark _)) (@pss_one _ _ _ (@ps_ret _ _ _ _ (@pe_tupN _ _ _ _ _ (@pa_cons _ _ _ _ _ (@pe_str _ _ _ _) (@pa_cons _ _ _ _ _ (@pe_ix _ _ _ _ _ _ _ (kix_list K) (@pe_lstN _ _ _ _ (@pa_cons _ _ _ _ _ (@pe_str _ _ _ _) (@pa_cons _ _ _ _ _ (@pe_str _ _ _ _) (@pa_cons _ _ _ _ _ (@pe_str _ _ _ _) (@pa_nil _) (by rfl)) (by rfl)) (by rfl))) (@pe_op _ _ _ _ _ _ _ _ op_mod (@pe_op _ _ _ _ _ _ _ _ op_fdiv (pv 6) (@pe_int _ _ _ _)) (@pe_int _ _ _ _)) (fun _ _ => rfl)) (@pa_cons _ _ _ _ _ (@pe_call _ _ _ _ _ _ _ _ _ _ _ _ _ _ _ _ G__law_expr (hr.mono (by omega)) rfl T.m__law_expr T.F__law_expr.kp T.b__law_expr .nil pass0 (@pa_cons _ _ _ _ _ (@pe_op _ _ _ _ _ _ _ _ op_fdiv (pv 6) (@pe_int _ _ _ _)) (@pa_nil _) (by rfl)) (by decide) (by rfl) (by rfl)) (@pa_cons _ _ _ _ _ (pv 7) (@pa_nil _) (by rfl)) (by rfl)) (by rfl)) (by rfl))))) (@pss_nil _))
      (@pss_cons _ _ _ _ _ (@ps_if _ _ _ _ _ _ _ _ (@pt_pure _ _ _ (@PW.pt _ _ _ (@pw_or _ _ _ _ _ _ _ (@pt_cmpR _ _ _ _ _ _ _ _ op_eq (pv 5) (@pe_int _ _ _ _) (nomark _)) (@pw_or1 _ _ _ _ (@pt_cmpR _ _ _ _ _ _ _ _ op_eq (pv 5) (@pe_int _ _ _ _) (nomark _)))))) (@pss_one _ _ _ (@ps_ret _ _ _ _ (@pe_tupN _ _ _ _ _ (@pa_cons _ _ _ _ _ (@pe_str _ _ _ _) (@pa_cons _ _ _ _ _ (@pe_call _ _ _ _ _ _ _ _ _ _ _ _ _ _ _ _ G__law_cond (hr.mono (by omega)) rfl T.m__law_cond T.F__law_cond.kp T.b__law_cond .nil pass0 (@pa_cons _ _ _ _ _ (@pe_op _ _ _ _ _ _ _ _ op_fdiv (pv 6) (@pe_int _ _ _ _)) (@pa_nil _) (by rfl)) (by decide) (by rfl) (by rfl)) (@pa_cons _ _ _ _ _ (pv 7) (@pa_cons _ _ _ _ _ (@pe_callB _ _ _ _ _ _ _ _ _ kcall_min2 (by rfl) T.z_min bb_min (@pa_cons _ _ _ _ _ (@pe_op _ _ _ _ _ _ _ _ op_plus (@pe_op _ _ _ _ _ _ _ _ op_plus (pv 1) (@pe_int _ _ _ _)) (@pe_op _ _ _ _ _ _ _ _ op_mod (@pe_op _ _ _ _ _ _ _ _ op_fdiv (pv 6) (@pe_int _ _ _ _)) (@pe_int _ _ _ _))) (@pa_cons _ _ _ _ _ (@pe_op _ _ _ _ _ _ _ _ op_sub (pv 3) (@pe_int _ _ _ _)) (@pa_nil _) (by rfl)) (by rfl)) (by decide) (by decide) (by rfl) (by rfl)) (@pa_nil _) (by rfl)) (by rfl)) (by rfl)) (by rfl))))) (@pss_nil _))
      (@pss_cons _ _ _ _ _ (@ps_if _ _ _ _ _ _ _ _ (@pt_pure _ _ _ (@PW.pt _ _ _ (@pw_and _ _ _ _ _ _ _ (@pt_cmpR _ _ _ _ _ _ _ _ op_eq (pv 5) (@pe_int _ _ _ _) (nomark _)) (@pw_and1 _ _ _ _ (@pt_cmpR _ _ _ _ _ _ _ _ op_lt (pv 4) (@pe_int _ _ _ _) (nomark _)))))) (@pss_one _ _ _ (@ps_ret _ _ _ _ (@pe_tupN _ _ _ _ _ (@pa_cons _ _ _ _ _ (@pe_str _ _ _ _) (@pa_cons _ _ _ _ _ (@pe_op _ _ _ _ _ _ _ _ op_plus (pv 3) (@pe_op _ _ _ _ _ _ _ _ op_mod (@pe_op _ _ _ _ _ _ _ _ op_fdiv (pv 6) (@pe_int _ _ _ _)) (@pe_int _ _ _ _))) (@pa_cons _ _ _ _ _ (pv 7) (@pa_nil _) (by rfl)) (by rfl)) (by rfl))))) (@pss_nil _))
      (@pss_one _ _ _ (@ps_ret _ _ _ _ (@pe_call _ _ _ _ _ _ _ _ _ _ _ _ _ _ _ _ G__law_wait (hr.mono (by omega)) rfl T.m__law_wait T.F__law_wait.kp T.b__law_wait .nil pass0 (@pa_cons _ _ _ _ _ (pv 6) (@pa_cons _ _ _ _ _ (pv 1) (@pa_cons _ _ _ _ _ (pv 2) (@pa_cons _ _ _ _ _ (pv 3) (@pa_nil _) (by rfl)) (by rfl)) (by rfl)) (by rfl)) (by decide) (by rfl) (by rfl))))))))))))), ?_⟩
    walk_at "go"
    refine i_pure (number + 1 = high ∨ cell % 8 = 7) (fun R hR => ?_) ?_
    · walk_at "run"
      by_cases hh : number + 1 = high
      · refine i_itDT (by omega) ?_
        exact rT hR (.inl hh)
      · refine i_itDF (by omega) ?_
        walk_at "run"
        by_cases h7 : cell % 8 = 7
        · rw [decide_eq_true h7]
          exact rT hR (.inr h7)
        · rw [decide_eq_false h7]
          exact rF hR (fun z => by rcases z with z | z; exact hh z; exact h7 z)
    refine ite2 (fun hc => ?_) (fun hc => ?_)
    · walk_at "run"
      refine i_pure (0 < deep ∧ cell / 8 % 2 = 0) (fun R hR => ?_) ?_
      · walk_at "run"
        by_cases hh : 0 < deep
        · refine i_itDT (by omega) ?_
          walk_at "run"
          by_cases h7 : cell / 8 % 2 = 0
          · rw [decide_eq_true h7]
            exact rT hR ⟨hh, h7⟩
          · rw [decide_eq_false h7]
            exact rF hR (fun z => h7 z.2)
        · refine i_itDF (by omega) ?_
          exact rF hR (fun z => hh z.1)
      refine ite2 (fun hc2 => ?_) (fun hc2 => ?_)
      · walk_at "run"
        intro p1 H1 f1 s1 e1
        exact q _ H1 .back s1 (back_mk e1) trivial
      · walk_at "run"
        intro p1 H1 f1 s1 e1
        walk_at "run"
        intro p2 H2 f2 s2 e2
        walk_at "run"
        refine ⟨_, number, low, high, n, rfl, h1, h2, h3, h4, fun v3 H3 nd s3 hn okn => ?_⟩
        walk_at "run"
        intro p4 H4 f4 s4 e4
        walk_at "run"
        have sA := s1.trans (s2.trans (s3.trans s4))
        have hx : cell / 8 % 3 = 0 ∨ cell / 8 % 3 = 1 ∨ cell / 8 % 3 = 2 := by omega
        rcases hx with hx | hx | hx
        · refine i_ixL (SqL.of e4) (v := .ref p1) (by rw [hx]; rfl) ?_
          exact q _ H4 .back sA ((back_mk e1).same (s2.trans (s3.trans s4))) trivial
        · refine i_ixL (SqL.of e4) (v := .ref p2) (by rw [hx]; rfl) ?_
          exact q _ H4 .stop sA ((stop_mk e2).same (s3.trans s4)) trivial
        · refine i_ixL (SqL.of e4) (v := v3) (by rw [hx]; rfl) ?_
          exact q _ H4 nd sA (hn.same s4) okn
    have hc' : ¬ (number + 1 = high ∨ cell % 8 = 7) := fun z => hc (decide_eq_true z)
    have hnh : number + 1 < high := by omega
    obtain ⟨to, hto, ht1, ht2⟩ := min_nat number high (cell / 8 % 3) (by omega) hnh
    rw [hto]
    walk_at "run"
    refine ite2 (fun k0 => ?_) (fun k0 => ?_)
    · walk_at "run"
      intro p1 H1 f1 s1 e1
      walk_at "run"
      obtain ⟨w, hw⟩ := at3s "yes" "no" "well" (cell / 8 / 3)
      refine i_ixL (SqL.of e1) hw ?_
      walk_at "run"
      intro p2 H2 f2 s2 e2
      exact q _ H2 (.say w to) (s1.trans s2) (say_at e2) ⟨ht1, by omega⟩
    walk_at "run"
    refine ite2 (fun k1 => ?_) (fun k1 => ?_)
    · walk_at "run"
      intro p2 H2 f2 s2 e2
      exact q _ H2 (.hand _ _ to) s2 (hand_at e2) ⟨ht1, by omega⟩
    walk_at "run"
    refine ite2 (fun k2 => ?_) (fun k2 => ?_)
    · walk_at "run"
      intro p1 H1 f1 s1 e1
      walk_at "run"
      obtain ⟨b, hb, hw⟩ := at3b (cell / 8 / 3)
      refine i_ixL (SqL.of e1) hw ?_
      walk_at "run"
      refine ⟨_, rfl, fun v2 H2 x s2 hx okx hhx => ?_⟩
      walk_at "run"
      intro p3 H3 f3 s3 e3
      exact q _ H3 (.put b x to) (s1.trans (s2.trans s3)) (put_at e3 (hx.same s3)) ⟨⟨ht1, by omega⟩, ⟨okx, by omega⟩, hb⟩
    walk_at "run"
    refine i_pure (cell % 8 = 3 ∨ cell % 8 = 4) (fun R hR => ?_) ?_
    · walk_at "run"
      by_cases hh : cell % 8 = 3
      · refine i_itDT hh ?_
        exact rT hR (.inl hh)
      · refine i_itDF hh ?_
        walk_at "run"
        by_cases h7 : cell % 8 = 4
        · rw [decide_eq_true h7]
          exact rT hR (.inr h7)
        · rw [decide_eq_false h7]
          exact rF hR (fun z => by rcases z with z | z; exact hh z; exact h7 z)
    refine ite2 (fun k3 => ?_) (fun k3 => ?_)
    · walk_at "run"
      refine ⟨_, rfl, fun v2 H2 c s2 hx okx hhx => ?_⟩
      walk_at "run"
      obtain ⟨to2, hto2, hu1, hu2⟩ := min_nat number high (cell / 8 / 3 % 5) (by omega) hnh
      rw [hto2]
      intro p3 H3 f3 s3 e3
      exact q _ H3 (.test c to to2) (s2.trans s3) (test_mk e3 (hx.same s3)) ⟨⟨ht1, by omega⟩, ⟨hu1, by omega⟩, okx, hhx⟩
    walk_at "run"
    refine i_pure (cell % 8 = 5 ∧ deep < 2) (fun R hR => ?_) ?_
    · walk_at "run"
      by_cases hh : cell % 8 = 5
      · refine i_itDT hh ?_
        walk_at "run"
        by_cases h7 : deep < 2
        · rw [decide_eq_true (by omega)]
          exact rT hR ⟨hh, h7⟩
        · rw [decide_eq_false (by omega)]
          exact rF hR (fun z => h7 z.2)
      · refine i_itDF hh ?_
        exact rF hR (fun z => hh z.1)
    refine ite2 (fun k5 => ?_) (fun k5 => ?_)
    · have k5' : deep < 2 := (of_decide_eq_true k5).2
      have h6 := h5 k5'
      walk_at "run"
      obtain ⟨en, hen, he1, he2⟩ := add_nat high (cell / 8 / 3)
      rw [hen]
      intro p3 H3 f3 s3 e3
      exact q _ H3 (.call en to) s3 (call_mk e3) ⟨⟨by omega, by omega⟩, ht1, by omega⟩
    · walk_at "run"
      refine ⟨_, number, low, high, n, rfl, h1, h2, h3, h4, fun v3 H3 nd s3 hn okn => ?_⟩
      exact q _ H3 nd s3 hn okn
def sp_graph (K : PySem.W.Frag) : Sp := fun vs H Q _ => ∃ (a : Addr) (ns : List Int), vs = [.ref a] ∧ SqL K H a (ns.map V.int) ∧ ∀ v H' bs ds f b n, Same H H' → GAt H' v bs ds f b n → Gok ds f → bs.map (·.1) = bxs3 → Q v H'
theorem ats_set0 {H : Hp} : ∀ {xs : List Tr} {vs : List V} {x : Tr} {v : V} (j : Nat), Tr.Ats H xs vs [] → x.At H v [] → Tr.Ats H (xs.set j x) (vs.set j v) []
  | [], vs, x, v, j, h, h2 => by
    rw [ats_nil0.mp h]
    simpa using ats_nil0.mpr rfl
  | y :: xs, vs, x, v, j, h, h2 => by
    obtain ⟨u, ws, rfl, h3, h4⟩ := ats_cons0.mp h
    cases j with
    | zero => exact ats_cons0.mpr ⟨v, ws, rfl, h2, h4⟩
    | succ j => exact ats_cons0.mpr ⟨u, ws.set j v, rfl, h3, ats_set0 j h4 h2⟩
theorem okAt_set {ns : List Nd} {m j : Nat} (h : ∀ (i : Nat) (d : Nd), ns[i]? = some d → d.okAt m i) : ∀ (i : Nat) (d : Nd), (ns.set j .back)[i]? = some d → d.okAt m i := by
  intro i d e
  rw [List.getElem?_set] at e
  split at e
  · split at e
    · cases e; exact trivial
    · cases e
  · exact h i d e
theorem okAt_snoc {ns : List Nd} {m : Nat} {x : Nd} (h : ∀ (i : Nat) (d : Nd), ns[i]? = some d → d.okAt m i) (hx : x.okAt m ns.length) : ∀ (i : Nat) (d : Nd), (ns ++ [x])[i]? = some d → d.okAt m i := by
  intro i d e
  by_cases hi : i < ns.length
  · rw [List.getElem?_append_left hi] at e
    exact h i d e
  · rw [List.getElem?_append_right (by omega)] at e
    have h0 : i - ns.length = 0 := by
      have := (List.getElem?_eq_some_iff.mp e).1
      simp at this; omega
    rw [h0] at e
    simp at e
    subst e
    rw [show i = ns.length by omega]
    exact hx
theorem mix_big (z : Int) (num : Nat) (h : num ≤ 100) : CBig (z % 10 ^ Int.toNat 40 + (num : Nat)) (z % 10 ^ Int.toNat 40 + 7 * (num : Nat) + 2) := by
  have h1 := Int.emod_nonneg z (show (10 : Int) ^ Int.toNat 40 ≠ 0 by decide)
  have h2 := Int.emod_lt_of_pos z (show (0 : Int) < 10 ^ Int.toNat 40 by decide)
  have h3 : (10 : Int) ^ Int.toNat 40 ≤ 2 ^ 199 := by decide
  have hb : ∀ x : Int, 0 ≤ x → x < 2 ^ 200 → x.natAbs < 2 ^ 4096 := fun x h0 h1 => Nat.lt_of_lt_of_le (show x.natAbs < 2 ^ 200 by omega) (Nat.pow_le_pow_right (by decide) (by decide))
  exact .inl ⟨hb _ (by omega) (by omega), hb _ (by omega) (by omega)⟩
theorem i_rng2 {σ : St} {H : Hp} {R : It → Hp → Prop} {ts : TA} (h : ts σ H fun vs H1 => ∃ i j : Int, vs = [.int i, .int j] ∧ (-(2 ^ 62) ≤ i ∧ i < 2 ^ 62 ∧ -(2 ^ 62) ≤ j ∧ j < 2 ^ 62) ∧ R (Itr i (j - i).toNat) H1) : iRng2 ts σ H R := h
theorem ok_law_graph (T : Txt K mg t) : FnOk P w K mg base CX0 4 t.a__law_graph t.fd__law_graph ["script"] (sp_graph K) := by
  have G__law_cell_at := ok_law_cell_at (P := P) (w := w) (base := base) T
  have G__law_node := ok_law_node (P := P) (w := w) (base := base) T
  refine T.F__law_graph.ok sc_law_graph (fun vs H Q E h => ?_) (fun cdv A outer s H vs Q E hr h => ?_)
  · obtain ⟨a, ns, rfl, _⟩ := h
    rfl
  · obtain ⟨a, ns, rfl, hS, q⟩ := h
    refine ⟨_, (@pss_cons _ _ _ _ _ (@ps_set _ _ 1 _ _ _ _ sc_law_graph.nd rfl (by first | exact Or.inl rfl | exact Or.inr rfl) (@pe_call _ _ _ _ _ _ _ _ _ _ _ _ _ _ _ _ G__law_cell_at (hr.mono (by omega)) rfl T.m__law_cell_at T.F__law_cell_at.kp T.b__law_cell_at .nil pass0 (@pa_cons _ _ _ _ _ (pv 0) (@pa_cons _ _ _ _ _ (@pe_int _ _ _ _) (@pa_nil _) (by rfl)) (by rfl)) (by decide) (by rfl) (by rfl)) (by rfl) (by first | exact Or.inl rfl | exact Or.inr rfl))
      (@pss_cons _ _ _ _ _ (@ps_set _ _ 2 _ _ _ _ sc_law_graph.nd rfl (by first | exact Or.inl rfl | exact Or.inr rfl) (@pe_lstN _ _ _ _ (@pa_cons _ _ _ _ _ (@pe_int _ _ _ _) (@pa_cons _ _ _ _ _ (@pe_op _ _ _ _ _ _ _ _ op_plus (@pe_int _ _ _ _) (@pe_op _ _ _ _ _ _ _ _ op_mod (@pe_op _ _ _ _ _ _ _ _ op_fdiv (pv 1) (@pe_int _ _ _ _)) (@pe_int _ _ _ _))) (@pa_nil _) (by rfl)) (by rfl))) (by rfl) (by first | exact Or.inl rfl | exact Or.inr rfl))
      (@pss_cons _ _ _ _ _ (@ps_expr _ _ _ _ (@kpe_bm _ K _ _ _ _ _ _ _ _ _ _ _ PySem.F.plainAttrs_list PySem.F.slot_list_append PySem.F.type_list_append mt_append (pv 2) (@pa_cons _ _ _ _ _ (@pe_op _ _ _ _ _ _ _ _ op_plus (@pe_op _ _ _ _ _ _ _ _ op_plus (@pe_ix _ _ _ _ _ _ _ (kix_list K) (pv 2) (@pe_int _ _ _ _) (fun _ _ => rfl)) (@pe_int _ _ _ _)) (@pe_op _ _ _ _ _ _ _ _ op_mod (@pe_op _ _ _ _ _ _ _ _ op_fdiv (pv 1) (@pe_int _ _ _ _)) (@pe_int _ _ _ _))) (@pa_nil _) (by rfl)) (by rfl) (by rfl) (by rfl) (by rfl) (by rfl) (by rfl)) (by rfl))
      (@pss_cons _ _ _ _ _ (@ps_expr _ _ _ _ (@kpe_bm _ K _ _ _ _ _ _ _ _ _ _ _ PySem.F.plainAttrs_list PySem.F.slot_list_append PySem.F.type_list_append mt_append (pv 2) (@pa_cons _ _ _ _ _ (@pe_op _ _ _ _ _ _ _ _ op_plus (@pe_op _ _ _ _ _ _ _ _ op_plus (@pe_ix _ _ _ _ _ _ _ (kix_list K) (pv 2) (@pe_int _ _ _ _) (fun _ _ => rfl)) (@pe_int _ _ _ _)) (@pe_op _ _ _ _ _ _ _ _ op_mod (@pe_op _ _ _ _ _ _ _ _ op_fdiv (pv 1) (@pe_int _ _ _ _)) (@pe_int _ _ _ _))) (@pa_nil _) (by rfl)) (by rfl) (by rfl) (by rfl) (by rfl) (by rfl) (by rfl)) (by rfl))
      (@pss_cons _ _ _ _ _ (@ps_set _ _ 3 _ _ _ _ sc_law_graph.nd rfl (by first | exact Or.inl rfl | exact Or.inr rfl) (@pe_lstN _ _ _ _ (@pa_nil _)) (by rfl) (by first | exact Or.inl rfl | exact Or.inr rfl))
      (@pss_cons _ _ _ _ _ (@ps_for _ _ _ _ _ _ _ _ PassesOwn.never rfl (pi_range1 rfl T.z_range (@pa_cons _ _ _ _ _ (@pe_int _ _ _ _) (@pa_nil _) (by rfl))) (pg_name (i := 4) sc_law_graph.nd rfl (by first | exact Or.inl rfl | exact Or.inr rfl)) (@pss_cons _ _ _ _ _ (@ps_for _ _ _ _ _ _ _ _ PassesOwn.never rfl (pi_range2 rfl T.z_range (@pa_cons _ _ _ _ _ (@pe_ix _ _ _ _ _ _ _ (kix_list K) (pv 2) (pv 4) (fun _ _ => rfl)) (@pa_cons _ _ _ _ _ (@pe_ix _ _ _ _ _ _ _ (kix_list K) (pv 2) (@pe_op _ _ _ _ _ _ _ _ op_plus (pv 4) (@pe_int _ _ _ _)) (fun _ _ => rfl)) (@pa_nil _) (by rfl)) (by rfl))) (pg_name (i := 5) sc_law_graph.nd rfl (by first | exact Or.inl rfl | exact Or.inr rfl)) (@pss_cons _ _ _ _ _ (@ps_set _ _ 6 _ _ _ _ sc_law_graph.nd rfl (by first | exact Or.inl rfl | exact Or.inr rfl) (@pe_call _ _ _ _ _ _ _ _ _ _ _ _ _ _ _ _ G__law_cell_at (hr.mono (by omega)) rfl T.m__law_cell_at T.F__law_cell_at.kp T.b__law_cell_at .nil pass0 (@pa_cons _ _ _ _ _ (pv 0) (@pa_cons _ _ _ _ _ (@pe_op _ _ _ _ _ _ _ _ op_plus (@pe_int _ _ _ _) (pv 5)) (@pa_nil _) (by rfl)) (by rfl)) (by decide) (by rfl) (by rfl)) (by rfl) (by first | exact Or.inl rfl | exact Or.inr rfl))
          (@pss_consC _ _ _ _ _ (@ps_if _ _ _ _ _ _ _ _ (@pt_cmpR _ _ _ _ _ _ _ _ op_eq (@pe_op _ _ _ _ _ _ _ _ op_mod (pv 1) (@pe_int _ _ _ _)) (@pe_int _ _ _ _) (nomark _)) (@pss_one _ _ _ (@ps_set _ _ 6 _ _ _ _ sc_law_graph.nd rfl (by first | exact Or.inl rfl | exact Or.inr rfl) (@pe_op _ _ _ _ _ _ _ _ op_fdiv (@pe_op _ _ _ _ _ _ _ _ op_times (@pe_op _ _ _ _ _ _ _ _ op_plus (@pe_op _ _ _ _ _ _ _ _ op_mod (pv 6) (@pe_op _ _ _ _ _ _ _ _ op_pow (@pe_int _ _ _ _) (@pe_int _ _ _ _))) (pv 5)) (@pe_op _ _ _ _ _ _ _ _ op_plus (@pe_op _ _ _ _ _ _ _ _ op_plus (@pe_op _ _ _ _ _ _ _ _ op_mod (pv 6) (@pe_op _ _ _ _ _ _ _ _ op_pow (@pe_int _ _ _ _) (@pe_int _ _ _ _))) (@pe_op _ _ _ _ _ _ _ _ op_times (@pe_int _ _ _ _) (pv 5))) (@pe_int _ _ _ _))) (@pe_int _ _ _ _)) (by rfl) (by first | exact Or.inl rfl | exact Or.inr rfl))) (@pss_nil _))
          (@pss_one _ _ _ (@ps_expr _ _ _ _ (@kpe_bm _ K _ _ _ _ _ _ _ _ _ _ _ PySem.F.plainAttrs_list PySem.F.slot_list_append PySem.F.type_list_append mt_append (pv 3) (@pa_cons _ _ _ _ _ (@pe_call _ _ _ _ _ _ _ _ _ _ _ _ _ _ _ _ G__law_node (hr.mono (by omega)) rfl T.m__law_node T.F__law_node.kp T.b__law_node .nil pass0 (@pa_cons _ _ _ _ _ (pv 6) (@pa_cons _ _ _ _ _ (pv 5) (@pa_cons _ _ _ _ _ (@pe_ix _ _ _ _ _ _ _ (kix_list K) (pv 2) (pv 4) (fun _ _ => rfl)) (@pa_cons _ _ _ _ _ (@pe_ix _ _ _ _ _ _ _ (kix_list K) (pv 2) (@pe_op _ _ _ _ _ _ _ _ op_plus (pv 4) (@pe_int _ _ _ _)) (fun _ _ => rfl)) (@pa_cons _ _ _ _ _ (pv 4) (@pa_nil _) (by rfl)) (by rfl)) (by rfl)) (by rfl)) (by rfl)) (by decide) (by rfl) (by rfl)) (@pa_nil _) (by rfl)) (by rfl) (by rfl) (by rfl) (by rfl) (by rfl) (by rfl)) (by rfl))))) (by intro _; rfl))
        (@pss_one _ _ _ (@ps_if _ _ _ _ _ _ _ _ (@pt_cmpR _ _ _ _ _ _ _ _ op_gt (pv 4) (@pe_int _ _ _ _) (nomark _)) (@pss_one _ _ _ (@ps_asg _ _ _ _ _ _ (@pe_tupN _ _ _ _ _ (@pa_cons _ _ _ _ _ (@pe_str _ _ _ _) (@pa_nil _) (by rfl))) (pg_sub (pv 3) (@pe_un _ _ _ _ _ _ un_neg (@pe_int _ _ _ _)) set_list) (by rfl) (by rfl) (by rfl))) (@pss_nil _)))) (by intro _; rfl))
      (@pss_one _ _ _ (@ps_ret _ _ _ _ (@pe_tupN _ _ _ _ _ (@pa_cons _ _ _ _ _ (@pe_lstN _ _ _ _ (@pa_cons _ _ _ _ _ (@pe_tupN _ _ _ _ _ (@pa_cons _ _ _ _ _ (@pe_str _ _ _ _) (@pa_cons _ _ _ _ _ (@pe_op _ _ _ _ _ _ _ _ op_plus (@pe_int _ _ _ _) (@pe_op _ _ _ _ _ _ _ _ op_mod (@pe_op _ _ _ _ _ _ _ _ op_fdiv (pv 1) (@pe_int _ _ _ _)) (@pe_int _ _ _ _))) (@pa_nil _) (by rfl)) (by rfl))) (@pa_cons _ _ _ _ _ (@pe_tupN _ _ _ _ _ (@pa_cons _ _ _ _ _ (@pe_str _ _ _ _) (@pa_cons _ _ _ _ _ (@pe_int _ _ _ _) (@pa_nil _) (by rfl)) (by rfl))) (@pa_cons _ _ _ _ _ (@pe_tupN _ _ _ _ _ (@pa_cons _ _ _ _ _ (@pe_str _ _ _ _) (@pa_cons _ _ _ _ _ (@pe_int _ _ _ _) (@pa_nil _) (by rfl)) (by rfl))) (@pa_nil _) (by rfl)) (by rfl)) (by rfl))) (@pa_cons _ _ _ _ _ (pv 3) (@pa_cons _ _ _ _ _ (@pe_op _ _ _ _ _ _ _ _ op_mod (@pe_op _ _ _ _ _ _ _ _ op_fdiv (pv 1) (@pe_int _ _ _ _)) (@pe_int _ _ _ _)) (@pa_nil _) (by rfl)) (by rfl)) (by rfl))))))))))), ?_⟩
    walk_at "go"
    refine ⟨a, ns, 0, rfl, hS, fun cell => ?_⟩
    walk_at "run"
    intro pe H1 f1 s1 e1
    walk_at "run"
    refine i_tyL (SqL.of e1) ?_
    walk_at "run"
    refine i_ixL (SqL.of e1) (atI_nat (j := 1) rfl) ?_
    walk_at "run"
    refine i_append e1 (show 2 < sizeLine by decide) ?_
    walk_at "run"
    refine i_tyL (SqL.of upd_same) ?_
    walk_at "run"
    refine i_ixL (SqL.of upd_same) (atI_nat (j := 2) rfl) ?_
    walk_at "run"
    refine i_append upd_same (show 3 < sizeLine by decide) ?_
    rw [upd_upd]
    walk_at "run"
    obtain ⟨m1, hm1, hm1a, hm1b⟩ : ∃ m : Nat, 4 + cell / 2 % 6 = (m : Nat) ∧ 4 ≤ m ∧ m ≤ 9 := ⟨(4 + cell / 2 % 6).toNat, by omega, by omega, by omega⟩
    obtain ⟨m2, hm2, hm2a, hm2b⟩ : ∃ m : Nat, (m1 : Int) + 2 + cell / 12 % 3 = (m : Nat) ∧ m1 + 2 ≤ m ∧ m ≤ 20 := ⟨((m1 : Int) + 2 + cell / 12 % 3).toNat, by omega, by omega, by omega⟩
    obtain ⟨m3, hm3, hm3a, hm3b⟩ : ∃ m : Nat, (m2 : Int) + 2 + cell / 36 % 2 = (m : Nat) ∧ m2 + 2 ≤ m ∧ m ≤ 30 := ⟨((m2 : Int) + 2 + cell / 36 % 2).toNat, by omega, by omega, by omega⟩
    simp only [hm1, hm2, hm3, List.cons_append, List.nil_append]
    generalize hH2 : upd H1 pe _ = H2
    have e2 : H2 pe = some (.lst (natsV [0, m1, m2, m3])) := by rw [← hH2, upd_same]; rfl
    have s2 : Same H H2 := by rw [← hH2]; exact s1.updNew f1
    clear hH2
    have hen : ∀ i, i < 3 → [0, m1, m2, m3].getD i 0 + 2 ≤ [0, m1, m2, m3].getD (i + 1) 0 ∧ [0, m1, m2, m3].getD (i + 1) 0 ≤ m3 ∧ (i < 2 → [0, m1, m2, m3].getD (i + 1) 0 + 2 ≤ m3) := by
      intro i hi
      have : i = 0 ∨ i = 1 ∨ i = 2 := by omega
      rcases this with rfl | rfl | rfl
      · simp; omega
      · simp; omega
      · simp; omega
    generalize hE : [0, m1, m2, m3] = E at e2 hen
    have hEl : E.length = 4 := by rw [← hE]; rfl
    have hE0 : E.getD 0 0 = 0 := by rw [← hE]; rfl
    have hE3 : E.getD 3 0 = m3 := by rw [← hE]; rfl
    intro pn H3 f3 s3 e3
    walk_at "run"
    have fn : H pn = none := s2.free f3
    refine for_range (lo := 0) (n := 3) (fun i σ H' => ∃ (ds : List Nd) (acc : List V) (y1 y2 y3 : Option V), σ = [some (.ref a), some (.int cell), some (.ref pe), some (.ref pn), y1, y2, y3] ∧ Same H2 H' ∧ H' pn = some (.lst acc) ∧ Tr.Ats H' (ds.map Nd.tr) acc [] ∧ ds.length = E.getD i 0 ∧ ∀ (j : Nat) (d : Nd), ds[j]? = some d → d.okAt m3 j) ⟨[], [], _, _, _, rfl, s3, e3, ats_nil0.mpr rfl, by rw [hE0]; rfl, fun j d e => by simp at e⟩ ?_ ?_
    · rintro i σ H4 hi ⟨ds, acc, y1, y2, y3, rfl, s4, hpn, hac, hdl, hok⟩
      obtain ⟨en1, en2, en3⟩ := hen i hi
      rw [Int.zero_add]
      walk_at "run"
      refine i_rng2 ?_
      walk_at "run"
      refine i_ixL (SqL.of (s4 _ _ e2)) (atI_nats (by omega)) ?_
      walk_at "run"
      refine i_ixL (SqL.of (s4 _ _ e2)) (atI_nats (k := i + 1) (by omega)) ?_
      walk_at "run"
      refine ⟨_, _, rfl, ⟨by omega, by omega, by omega, by omega⟩, ?_⟩
      refine for_range (lo := (E.getD i 0 : Nat)) (n := ((E.getD (i + 1) 0 : Nat) - (E.getD i 0 : Nat) : Int).toNat) (fun k σ H' => ∃ (ds : List Nd) (acc : List V) (y2 y3 : Option V), σ = [some (.ref a), some (.int cell), some (.ref pe), some (.ref pn), some (.int (i : Nat)), y2, y3] ∧ Same H2 H' ∧ H' pn = some (.lst acc) ∧ Tr.Ats H' (ds.map Nd.tr) acc [] ∧ ds.length = E.getD i 0 + k ∧ ∀ (j : Nat) (d : Nd), ds[j]? = some d → d.okAt m3 j) ⟨ds, acc, _, _, rfl, s4, hpn, hac, by omega, hok⟩ ?_ ?_
      · rintro k σ H5 hk ⟨ds, acc, y2, y3, rfl, s5, hpn, hac, hdl, hok⟩
        rw [show ((E.getD i 0 : Nat) : Int) + (k : Nat) = ((E.getD i 0 + k : Nat) : Int) by omega]
        generalize hnum : E.getD i 0 + k = num at hdl
        have hacl : acc.length = num := by rw [hac.len, List.length_map, hdl]
        walk_at "run"
        refine ⟨a, ns, 1 + num, by simp, (s2.trans s5).seq hS, fun z => ?_⟩
        walk_at "run"
        refine i_seqC (fun σ' H' => H5 = H' ∧ ∃ z : Int, σ' = [some (.ref a), some (.int cell), some (.ref pe), some (.ref pn), some (.int (i : Nat)), some (.int (num : Nat)), some (.int z)]) ?_ ?_
        · walk_at "run"
          refine ite2 (fun hc => ?_) (fun hc => ?_)
          · walk_at "run"
            refine i_timesI (mix_big z num (by omega)) ?_
            walk_at "run"
            exact ⟨rfl, _, rfl⟩
          · walk_at "run"
            exact ⟨rfl, _, rfl⟩
        · rintro σ' H' ⟨rfl, z, rfl⟩
          walk_at "run"
          refine i_tyL (SqL.of hpn) ?_
          walk_at "run"
          refine i_ixL (SqL.of (s5 _ _ e2)) (atI_nats (by omega)) ?_
          walk_at "run"
          refine i_ixL (SqL.of (s5 _ _ e2)) (atI_nats (k := i + 1) (by omega)) ?_
          walk_at "run"
          refine ⟨z, num, E.getD i 0, E.getD (i + 1) 0, i, m3, rfl, by omega, by omega, en2, by omega, en3, fun v H6 nd s6 hn okn => ?_⟩
          walk_at "run"
          have hpn6 := s6 _ _ hpn
          refine i_append hpn6 (Nat.lt_of_lt_of_le (show acc.length < 1000000 by omega) (le_line (Nat.le_refl _))) ?_
          walk_at "run"
          have tU : Tups H5 (upd H6 pn (.lst (acc ++ [v]))) := s6.tups.trans (Tups.upd hpn6)
          refine ⟨ds ++ [nd], _, _, _, rfl, (s5.trans s6).updNew f3, upd_same, ?_, by rw [List.length_append, hdl]; show num + 1 = _; omega, okAt_snoc hok (by rw [hdl]; exact okn)⟩
          rw [List.map_append]
          exact ats_snoc0 (hac.tups tU) (hn.tups (Tups.upd hpn6))
      · rintro σ H5 ⟨ds, acc, y2, y3, rfl, s5, hpn, hac, hdl, hok⟩
        have hdl2 : ds.length = E.getD (i + 1) 0 := by omega
        have hacl : acc.length = ds.length := by rw [hac.len, List.length_map]
        walk_at "run"
        refine ite2 (fun hc => ?_) (fun hc => ?_)
        · walk_at "run"
          intro p6 H6 f6 s6 e6
          walk_at "run"
          have hpn6 := s6 _ _ hpn
          refine i_setL hpn6 (j := acc.length - 1) (by unfold ixN; rw [if_neg (by omega), if_pos (by omega)]; congr 1; omega) ?_
          have tU : Tups H5 (upd H6 pn (.lst (acc.set (acc.length - 1) (.ref p6)))) := s6.tups.trans (Tups.upd hpn6)
          refine ⟨ds.set (acc.length - 1) .back, _, _, _, _, rfl, (s5.trans s6).updNew f3, upd_same, ?_, by rw [List.length_set]; exact hdl2, okAt_set hok⟩
          rw [List.map_set]
          exact ats_set0 _ (hac.tups tU) ((back_mk e6).tups (Tups.upd hpn6))
        · walk_at "run"
          exact ⟨ds, acc, _, _, _, rfl, s5, hpn, hac, hdl2, hok⟩
    · rintro σ H4 ⟨ds, acc, y1, y2, y3, rfl, s4, hpn, hac, hdl, hok⟩
      walk_at "run"
      intro p5 H5 f5 s5 e5
      walk_at "run"
      intro p6 H6 f6 s6 e6
      walk_at "run"
      intro p7 H7 f7 s7 e7
      walk_at "run"
      intro p8 H8 f8 s8 e8
      walk_at "run"
      obtain ⟨fs, hfs, hfs2⟩ : ∃ m : Nat, cell / 72 % 2 = (m : Nat) ∧ m < 2 := ⟨(cell / 72 % 2).toNat, by omega, by omega⟩
      rw [hfs]
      intro p9 H9 f9 s9 e9
      have s59 := s6.trans (s7.trans (s8.trans s9))
      have s49 := s5.trans s59
      rw [hE3] at hdl
      refine q _ H9 [(Str.ofString "many", 2 + cell / 72 % 2), (Str.ofString "mana", 3), (Str.ofString "mano", 2)] ds fs p8 pn (s2.trans (s4.trans s49)) ⟨p9, _, acc, rfl, e9, s9 _ _ e8, ?_, s49 _ _ hpn, hac.same s49⟩ ⟨by rw [hdl]; exact hok, by omega, by omega⟩ rfl
      exact ats_cons0.mpr ⟨_, _, rfl, tup2_at (s59 _ _ e5) str_at0 int_at, ats_cons0.mpr ⟨_, _, rfl, tup2_at ((s7.trans (s8.trans s9)) _ _ e6) str_at0 int_at, ats_cons0.mpr ⟨_, _, rfl, tup2_at ((s8.trans s9) _ _ e7) str_at0 int_at, ats_nil0.mpr rfl⟩⟩⟩
theorem ok_law_new (T : Txt K mg t) : FnOk P w K mg base CX0 1 t.a__law_new t.fd__law_new ["node", "where"] (sp_ren K) := by
  refine T.F__law_new.ok sc_law_new (fun vs H Q E h => ?_) (fun cdv A outer s H vs Q E hr h => ?_)
  · obtain ⟨v, l, nd, xs, f, rfl, _⟩ := h
    rfl
  · obtain ⟨v, l, nd, xs, f, rfl, hv, hl, hk, hz, q⟩ := h
    refine ⟨_, (@pss_cons _ _ _ _ _ (@ps_if _ _ _ _ _ _ _ _ (@pt_cmpR _ _ _ _ _ _ _ _ op_eq (@pe_ix _ _ _ _ _ _ _ (kix_tup K) (pv 0) (@pe_int _ _ _ _) (fun _ _ => rfl)) (@pe_str _ _ _ _) (nomark _)) (@pss_one _ _ _ (@ps_ret _ _ _ _ (@pe_tupN _ _ _ _ _ (@pa_cons _ _ _ _ _ (@pe_str _ _ _ _) (@pa_cons _ _ _ _ _ (@pe_ix _ _ _ _ _ _ _ (kix_tup K) (pv 0) (@pe_int _ _ _ _) (fun _ _ => rfl)) (@pa_cons _ _ _ _ _ (@pe_callTy _ _ _ _ _ _ _ _ _ (kcl_tuple K) (by rfl) T.z_tuple bb_tuple (@pa_cons _ _ _ _ _ (pe_lc (Nt := ["pattern", "to"]) (Nf := ["where"]) (caps := [1]) rfl (comp_ok (sc := defScope s_law_new) rfl rfl (by decide +kernel) (by decide +kernel) (by decide +kernel) rfl (by decide +kernel)) (kpi_tup K (@pe_ix _ _ _ _ _ _ _ (kix_tup K) (pv 0) (@pe_int _ _ _ _) (fun _ _ => rfl))) (fun _ _ _ _ _ => (kpg_tup K (n := 2) rfl (pgs_cons (pg_name (i := 0) (show (["pattern", "to", "where"] : List Str).Nodup by decide +kernel) rfl (by first | exact Or.inl rfl | exact Or.inr rfl)) (pgs_cons (pg_name (i := 1) (show (["pattern", "to", "where"] : List Str).Nodup by decide +kernel) rfl (by first | exact Or.inl rfl | exact Or.inr rfl)) (@pgs_nil _))))) (fun _ _ _ _ _ => (@pts_nil _)) (fun _ _ _ _ _ => (@pe_tupN _ _ _ _ _ (@pa_cons _ _ _ _ _ (pv 0) (@pa_cons _ _ _ _ _ (@pe_ix _ _ _ _ _ _ _ (kix_list K) (pv 2) (pv 1) (fun _ _ => rfl)) (@pa_nil _) (by rfl)) (by rfl))))) (@pa_nil _) (by rfl)) (by decide) (by decide) (by rfl) (by rfl)) (@pa_cons _ _ _ _ _ (@pe_ix _ _ _ _ _ _ _ (kix_list K) (pv 1) (@pe_ix _ _ _ _ _ _ _ (kix_tup K) (pv 0) (@pe_int _ _ _ _) (fun _ _ => rfl)) (fun _ _ => rfl)) (@pa_nil _) (by rfl)) (by rfl)) (by rfl)) (by rfl))))) (@pss_nil _))
      (@pss_cons _ _ _ _ _ (@ps_if _ _ _ _ _ _ _ _ (@pt_cmpR _ _ _ _ _ _ _ _ op_eq (@pe_ix _ _ _ _ _ _ _ (kix_tup K) (pv 0) (@pe_int _ _ _ _) (fun _ _ => rfl)) (@pe_str _ _ _ _) (nomark _)) (@pss_one _ _ _ (@ps_ret _ _ _ _ (@pe_tupN _ _ _ _ _ (@pa_cons _ _ _ _ _ (@pe_str _ _ _ _) (@pa_cons _ _ _ _ _ (@pe_ix _ _ _ _ _ _ _ (kix_tup K) (pv 0) (@pe_int _ _ _ _) (fun _ _ => rfl)) (@pa_cons _ _ _ _ _ (@pe_ix _ _ _ _ _ _ _ (kix_list K) (pv 1) (@pe_ix _ _ _ _ _ _ _ (kix_tup K) (pv 0) (@pe_int _ _ _ _) (fun _ _ => rfl)) (fun _ _ => rfl)) (@pa_cons _ _ _ _ _ (@pe_ix _ _ _ _ _ _ _ (kix_list K) (pv 1) (@pe_ix _ _ _ _ _ _ _ (kix_tup K) (pv 0) (@pe_int _ _ _ _) (fun _ _ => rfl)) (fun _ _ => rfl)) (@pa_nil _) (by rfl)) (by rfl)) (by rfl)) (by rfl))))) (@pss_nil _))
      (@pss_cons _ _ _ _ _ (@ps_if _ _ _ _ _ _ _ _ (@pt_cmpR _ _ _ _ _ _ _ _ op_eq (@pe_ix _ _ _ _ _ _ _ (kix_tup K) (pv 0) (@pe_int _ _ _ _) (fun _ _ => rfl)) (@pe_str _ _ _ _) (nomark _)) (@pss_one _ _ _ (@ps_ret _ _ _ _ (@pe_tupN _ _ _ _ _ (@pa_cons _ _ _ _ _ (@pe_str _ _ _ _) (@pa_cons _ _ _ _ _ (@pe_ix _ _ _ _ _ _ _ (kix_list K) (pv 1) (@pe_ix _ _ _ _ _ _ _ (kix_tup K) (pv 0) (@pe_int _ _ _ _) (fun _ _ => rfl)) (fun _ _ => rfl)) (@pa_cons _ _ _ _ _ (@pe_ix _ _ _ _ _ _ _ (kix_list K) (pv 1) (@pe_ix _ _ _ _ _ _ _ (kix_tup K) (pv 0) (@pe_int _ _ _ _) (fun _ _ => rfl)) (fun _ _ => rfl)) (@pa_nil _) (by rfl)) (by rfl)) (by rfl))))) (@pss_nil _))
      (@pss_cons _ _ _ _ _ (@ps_if _ _ _ _ _ _ _ _ (@PW.pt _ _ _ (@pw_or _ _ _ _ _ _ _ (@pt_cmpR _ _ _ _ _ _ _ _ op_eq (@pe_ix _ _ _ _ _ _ _ (kix_tup K) (pv 0) (@pe_int _ _ _ _) (fun _ _ => rfl)) (@pe_str _ _ _ _) (nomark _)) (@pw_or1 _ _ _ _ (@pt_cmpR _ _ _ _ _ _ _ _ op_eq (@pe_ix _ _ _ _ _ _ _ (kix_tup K) (pv 0) (@pe_int _ _ _ _) (fun _ _ => rfl)) (@pe_str _ _ _ _) (nomark _))))) (@pss_one _ _ _ (@ps_ret _ _ _ _ (pv 0))) (@pss_nil _))
      (@pss_one _ _ _ (@ps_ret _ _ _ _ (@pe_op _ _ _ _ _ _ _ _ (kop_catT K) (@pe_slice _ _ _ _ _ _ _ _ _ _ (ksl_tup K) (pv 0) (@po_none _) (@po_some _ _ _ (@pe_un _ _ _ _ _ _ un_neg (@pe_int _ _ _ _)))) (@pe_tupN _ _ _ _ _ (@pa_cons _ _ _ _ _ (@pe_ix _ _ _ _ _ _ _ (kix_list K) (pv 1) (@pe_ix _ _ _ _ _ _ _ (kix_tup K) (pv 0) (@pe_un _ _ _ _ _ _ un_neg (@pe_int _ _ _ _)) (fun _ _ => rfl)) (fun _ _ => rfl)) (@pa_nil _) (by rfl)))))))))), ?_⟩
    cases ho : nd.one? with
    | some p =>
      obtain ⟨k, r, n⟩ := p
      obtain ⟨_, e2, e3, n1, n2, n3, n4, n5, _⟩ := Nd.one_its ho
      obtain ⟨a, us, rfl, ha, hu, hul⟩ := Nd.one_at ho hv
      have hn := hk n (by rw [e3]; simp)
      walk_at "go"
      refine i_ixT (SqT.of ha) (atI_nat (j := 0) rfl) ?_
      walk_at "run"
      refine i_itDF n1 ?_
      walk_at "run"
      refine i_ixT (SqT.of ha) (atI_nat (j := 0) rfl) ?_
      walk_at "run"
      refine i_itDF n2 ?_
      walk_at "run"
      refine i_ixT (SqT.of ha) (atI_nat (j := 0) rfl) ?_
      walk_at "run"
      refine i_itDF n3 ?_
      walk_at "run"
      refine i_ixT (SqT.of ha) (atI_nat (j := 0) rfl) ?_
      walk_at "run"
      refine i_itDF n4 ?_
      walk_at "run"
      refine i_ixT (SqT.of ha) (atI_nat (j := 0) rfl) ?_
      walk_at "run"
      refine i_itDF n5 ?_
      walk_at "run"
      refine i_slInit (xs := V.str k :: us) (y := .int (n : Nat)) (SqT.of ha) ?_
      intro p1 H1 f1 s1 e1
      walk_at "run"
      refine i_ixT (SqT.of (s1 _ _ ha)) (atI_last _ _) ?_
      walk_at "run"
      refine i_ixL (SqL.of (s1 _ _ hl)) hn ?_
      walk_at "run"
      intro p2 H2 f2 s2 e2'
      walk_at "run"
      refine i_catT (SqT.of (s2 _ _ e1)) (SqT.of e2') (by simp) (by simp) (le_line (by simp; omega)) ?_
      intro p3 H3 f3 s3 e3'
      have sA := s1.trans (s2.trans s3)
      exact q _ _ sA (ren_one ho (hu.same sA) e3')
    | none =>
      cases nd with
      | say w m => cases ho
      | hand w m k => cases ho
      | put b e m => cases ho
      | test c m n =>
        obtain ⟨a, u, rfl, ha, hc⟩ := Nd.test_at hv
        walk_at "go"
        refine i_ixT (SqT.of ha) (atI_nat (j := 0) rfl) ?_
        walk_at "run"
        refine i_itDF (by decide +kernel) ?_
        walk_at "run"
        refine i_ixT (SqT.of ha) (atI_nat (j := 0) rfl) ?_
        walk_at "run"
        refine i_itDT rfl ?_
        walk_at "run"
        refine i_ixT (SqT.of ha) (atI_nat (j := 1) rfl) ?_
        walk_at "run"
        refine i_ixT (SqT.of ha) (atI_nat (j := 2) rfl) ?_
        walk_at "run"
        refine i_ixL (SqL.of hl) (hk m (by simp [Nd.nexts])) ?_
        walk_at "run"
        refine i_ixT (SqT.of ha) (atI_nat (j := 3) rfl) ?_
        walk_at "run"
        refine i_ixL (SqL.of hl) (hk n (by simp [Nd.nexts])) ?_
        walk_at "run"
        intro p1 H1 f1 s1 e1
        exact q _ _ s1 (tup4_at e1 str_at0 (hc.same s1) int_at int_at)
      | call m n =>
        obtain ⟨a, rfl, ha⟩ := Nd.call_at hv
        walk_at "go"
        refine i_ixT (SqT.of ha) (atI_nat (j := 0) rfl) ?_
        walk_at "run"
        refine i_itDF (by decide +kernel) ?_
        walk_at "run"
        refine i_ixT (SqT.of ha) (atI_nat (j := 0) rfl) ?_
        walk_at "run"
        refine i_itDF (by decide +kernel) ?_
        walk_at "run"
        refine i_ixT (SqT.of ha) (atI_nat (j := 0) rfl) ?_
        walk_at "run"
        refine i_itDT rfl ?_
        walk_at "run"
        refine i_ixT (SqT.of ha) (atI_nat (j := 1) rfl) ?_
        walk_at "run"
        refine i_ixL (SqL.of hl) (hk m (by simp [Nd.nexts])) ?_
        walk_at "run"
        refine i_ixT (SqT.of ha) (atI_nat (j := 2) rfl) ?_
        walk_at "run"
        refine i_ixL (SqL.of hl) (hk n (by simp [Nd.nexts])) ?_
        walk_at "run"
        intro p1 H1 f1 s1 e1
        exact q _ _ s1 (tup3_at e1 str_at0 int_at int_at)
      | back =>
        obtain ⟨a, rfl, ha⟩ := Nd.back_at hv
        walk_at "go"
        refine i_ixT (SqT.of ha) (atI_nat (j := 0) rfl) ?_
        walk_at "run"
        refine i_itDF (by decide +kernel) ?_
        walk_at "run"
        refine i_ixT (SqT.of ha) (atI_nat (j := 0) rfl) ?_
        walk_at "run"
        refine i_itDF (by decide +kernel) ?_
        walk_at "run"
        refine i_ixT (SqT.of ha) (atI_nat (j := 0) rfl) ?_
        walk_at "run"
        refine i_itDF (by decide +kernel) ?_
        walk_at "run"
        refine i_ixT (SqT.of ha) (atI_nat (j := 0) rfl) ?_
        walk_at "run"
        refine i_itDT rfl ?_
        walk_at "run"
        exact q _ _ (Same.refl _) hv
      | stop =>
        obtain ⟨a, rfl, ha⟩ := Nd.stop_at hv
        walk_at "go"
        refine i_ixT (SqT.of ha) (atI_nat (j := 0) rfl) ?_
        walk_at "run"
        refine i_itDF (by decide +kernel) ?_
        walk_at "run"
        refine i_ixT (SqT.of ha) (atI_nat (j := 0) rfl) ?_
        walk_at "run"
        refine i_itDF (by decide +kernel) ?_
        walk_at "run"
        refine i_ixT (SqT.of ha) (atI_nat (j := 0) rfl) ?_
        walk_at "run"
        refine i_itDF (by decide +kernel) ?_
        walk_at "run"
        refine i_ixT (SqT.of ha) (atI_nat (j := 0) rfl) ?_
        walk_at "run"
        refine i_itDF (by decide +kernel) ?_
        walk_at "run"
        refine i_ixT (SqT.of ha) (atI_nat (j := 0) rfl) ?_
        walk_at "run"
        refine i_itDT rfl ?_
        walk_at "run"
        exact q _ _ (Same.refl _) hv
      | wait wl bs n =>
        obtain ⟨a, b, us, rfl, ha, hb, hu⟩ := Nd.wait_at hv
        have hul := hu.len
        simp only [Nd.nexts, List.length_append, List.length_map, List.length_cons, List.length_nil] at hz hul
        walk_at "go"
        refine i_ixT (SqT.of ha) (atI_nat (j := 0) rfl) ?_
        walk_at "run"
        refine i_itDT rfl ?_
        walk_at "run"
        refine i_ixT (SqT.of ha) (atI_nat (j := 1) rfl) ?_
        walk_at "run"
        refine i_ixT (SqT.of ha) (atI_nat (j := 2) rfl) ?_
        walk_at "run"
        refine ⟨⟨_, SqT.of hb⟩, cc_pairsT (xs := us) (le_line (by omega)) (fun i acc H' => Same H H' ∧ i ≤ bs.length ∧ Tr.Ats H' ((bs.take i).map fun x => brT (renB f x)) acc []) ⟨Same.refl _, Nat.zero_le _, ats_nil0.mpr rfl⟩ (fun i acc H' ⟨s', hi, e⟩ => ⟨?_, SqT.of (s' _ _ hb)⟩) ?_ ?_⟩
        · rw [e.len]
          simp only [List.length_map, List.length_take]
          omega
        · rintro i x acc H' hx ⟨s', hi, e⟩
          obtain ⟨t, ht, hxt⟩ := ats_get0 hu hx
          obtain ⟨p, u, bb, rfl, hp, hbb, hpu⟩ := br_at ht hxt
          have hi' : i < bs.length := (List.getElem?_eq_some_iff.mp hbb).1
          have hlt := hk bb.2 (by simp only [Nd.nexts, List.mem_append, List.mem_map]; exact .inl ⟨bb, List.mem_of_getElem? hbb, rfl⟩)
          refine ⟨p, u, .int (bb.2 : Nat), rfl, SqT.of (s' _ _ hp), ?_⟩
          walk_at "run"
          refine i_ixL (SqL.of (s' _ _ hl)) hlt ?_
          walk_at "run"
          intro p1 H1 f1 s1 e1
          refine ⟨s'.trans s1, hi', ?_⟩
          rw [List.take_add_one, hbb, List.map_append]
          exact ats_snoc0 (e.same s1) (tup2_at e1 (hpu.same (s'.trans s1)) int_at)
        · rintro acc H' ⟨s', _, e⟩ p1 H1 f1 s1 e1
          walk_at "run"
          refine i_tupleL (SqL.of e1) ?_
          intro p2 H2 f2 s2 e2
          walk_at "run"
          have sA := s'.trans (s1.trans s2)
          refine i_ixT (SqT.of (sA _ _ ha)) (atI_nat (j := 3) rfl) ?_
          walk_at "run"
          refine i_ixL (SqL.of (sA _ _ hl)) (hk n (by simp [Nd.nexts])) ?_
          walk_at "run"
          intro p3 H3 f3 s3 e3
          rw [hul, List.take_length] at e
          refine q _ _ (sA.trans s3) (tup4_at e3 str_at0 int_at (at_tup0.mpr ⟨p2, _, rfl, s3 _ _ e2, ?_⟩) int_at)
          rw [List.map_map]
          exact e.same (s1.trans (s2.trans s3))
theorem mem_nats {ks : List Nat} {k : Nat} : ((k : Nat) : Int) ∈ ks.map (fun (k : Nat) => (k : Int)) ↔ k ∈ ks := by
  rw [List.mem_map]
  constructor
  · rintro ⟨m, hm, e⟩
    have : m = k := by omega
    exact this ▸ hm
  · intro h; exact ⟨k, h, rfl⟩
theorem ok_law_due (T : Txt K mg t) : FnOk P w K mg base CX0 2 t.a__law_due t.fd__law_due ["graph"] (sp_cut K) := by
  have G__law_new := ok_law_new (P := P) (w := w) (base := base) T
  have G__law_nexts := ok_law_nexts (P := P) (w := w) (base := base) T
  refine T.F__law_due.ok sc_law_due (fun vs H Q E h => ?_) (fun cdv A outer s H vs Q E hr h => ?_)
  · obtain ⟨v, b, n, bs, ns, f, rfl, _⟩ := h
    rfl
  · obtain ⟨v, b, n, bs, ns, f, rfl, hg, gk, hbl, q⟩ := h
    refine ⟨_, (@pss_cons _ _ _ _ _ (@ps_asg _ _ _ _ _ _ (pv 0) (kpg_tup K (n := 3) rfl (pgs_cons (pg_name (i := 1) sc_law_due.nd rfl (by first | exact Or.inl rfl | exact Or.inr rfl)) (pgs_cons (pg_name (i := 2) sc_law_due.nd rfl (by first | exact Or.inl rfl | exact Or.inr rfl)) (pgs_cons (pg_name (i := 3) sc_law_due.nd rfl (by first | exact Or.inl rfl | exact Or.inr rfl)) (@pgs_nil _))))) (by rfl) (by rfl) (by rfl))
      (@pss_cons _ _ _ _ _ (@ps_set _ _ 4 _ _ _ _ sc_law_due.nd rfl (by first | exact Or.inl rfl | exact Or.inr rfl) (@pe_lstN _ _ _ _ (@pa_cons _ _ _ _ _ (pv 3) (@pa_nil _) (by rfl))) (by rfl) (by first | exact Or.inl rfl | exact Or.inr rfl))
      (@pss_cons _ _ _ _ _ (@ps_set _ _ 5 _ _ _ _ sc_law_due.nd rfl (by first | exact Or.inl rfl | exact Or.inr rfl) (@pe_int _ _ _ _) (by rfl) (by first | exact Or.inl rfl | exact Or.inr rfl))
      (@pss_cons _ _ _ _ _ (@ps_while _ _ _ _ _ _ PassesOwn.never (@pt_cmpR _ _ _ _ _ _ _ _ op_lt (pv 5) (@pe_callB _ _ _ _ _ _ _ _ _ (kcl_len K) (by rfl) T.z_len bb_len (@pa_cons _ _ _ _ _ (pv 4) (@pa_nil _) (by rfl)) (by decide) (by decide) (by rfl) (by rfl)) (nomark _)) (@pss_cons _ _ _ _ _ (@ps_for _ _ _ _ _ _ _ _ PassesOwn.never rfl (kpi_list K (@pe_call _ _ _ _ _ _ _ _ _ _ _ _ _ _ _ _ G__law_nexts (hr.mono (by omega)) rfl T.m__law_nexts T.F__law_nexts.kp T.b__law_nexts .nil pass0 (@pa_cons _ _ _ _ _ (@pe_ix _ _ _ _ _ _ _ (kix_list K) (pv 2) (@pe_ix _ _ _ _ _ _ _ (kix_list K) (pv 4) (pv 5) (fun _ _ => rfl)) (fun _ _ => rfl)) (@pa_nil _) (by rfl)) (by decide) (by rfl) (by rfl))) (pg_name (i := 6) sc_law_due.nd rfl (by first | exact Or.inl rfl | exact Or.inr rfl)) (@pss_one _ _ _ (@ps_if _ _ _ _ _ _ _ _ (@pt_cmpR _ _ _ _ _ _ _ _ (kop_notIn K) (pv 6) (pv 4) (by with_unfolding_all rfl)) (@pss_one _ _ _ (@ps_set _ _ 4 _ _ _ _ sc_law_due.nd rfl (by first | exact Or.inl rfl | exact Or.inr rfl) (@pe_op _ _ _ _ _ _ _ _ op_plus (pv 4) (@pe_lstN _ _ _ _ (@pa_cons _ _ _ _ _ (pv 6) (@pa_nil _) (by rfl)))) (by rfl) (by first | exact Or.inl rfl | exact Or.inr rfl))) (@pss_nil _))) (by intro _; rfl))
        (@pss_one _ _ _ (@ps_set _ _ 5 _ _ _ _ sc_law_due.nd rfl (by first | exact Or.inl rfl | exact Or.inr rfl) (@pe_op _ _ _ _ _ _ _ _ op_plus (pv 5) (@pe_int _ _ _ _)) (by rfl) (by first | exact Or.inl rfl | exact Or.inr rfl)))))
      (@pss_cons _ _ _ _ _ (@ps_set _ _ 7 _ _ _ _ sc_law_due.nd rfl (by first | exact Or.inl rfl | exact Or.inr rfl) (@pe_op _ _ _ _ _ _ _ _ kop_repN (@pe_lstN _ _ _ _ (@pa_cons _ _ _ _ _ (@pe_non _ _ _) (@pa_nil _) (by rfl))) (@pe_callB _ _ _ _ _ _ _ _ _ (kcl_len K) (by rfl) T.z_len bb_len (@pa_cons _ _ _ _ _ (pv 2) (@pa_nil _) (by rfl)) (by decide) (by decide) (by rfl) (by rfl))) (by rfl) (by first | exact Or.inl rfl | exact Or.inr rfl))
      (@pss_cons _ _ _ _ _ (@ps_for _ _ _ _ _ _ _ _ PassesOwn.never rfl (pi_range1 rfl T.z_range (@pa_cons _ _ _ _ _ (@pe_callB _ _ _ _ _ _ _ _ _ (kcl_len K) (by rfl) T.z_len bb_len (@pa_cons _ _ _ _ _ (pv 4) (@pa_nil _) (by rfl)) (by decide) (by decide) (by rfl) (by rfl)) (@pa_nil _) (by rfl))) (pg_name (i := 8) sc_law_due.nd rfl (by first | exact Or.inl rfl | exact Or.inr rfl)) (@pss_one _ _ _ (@ps_asg _ _ _ _ _ _ (pv 8) (pg_sub (pv 7) (@pe_ix _ _ _ _ _ _ _ (kix_list K) (pv 4) (pv 8) (fun _ _ => rfl)) set_list) (by rfl) (by rfl) (by rfl))) (by intro _; rfl))
      (@pss_one _ _ _ (@ps_ret _ _ _ _ (@pe_tupN _ _ _ _ _ (@pa_cons _ _ _ _ _ (@pe_tupN _ _ _ _ _ (@pa_cons _ _ _ _ _ (@pe_callTy _ _ _ _ _ _ _ _ _ (kcl_list K) (by rfl) T.z_list bb_list (@pa_cons _ _ _ _ _ (pv 1) (@pa_nil _) (by rfl)) (by decide) (by decide) (by rfl) (by rfl)) (@pa_cons _ _ _ _ _ (pe_lc (Nt := ["number"]) (Nf := ["where", "nodes"]) (caps := [7, 2]) rfl (comp_ok (sc := defScope s_law_due) rfl rfl (by decide +kernel) (by decide +kernel) (by decide +kernel) rfl (by decide +kernel)) (kpi_list K (pv 4)) (fun _ _ _ _ _ => (pg_name (i := 0) (show (["number", "where", "nodes"] : List Str).Nodup by decide +kernel) rfl (by first | exact Or.inl rfl | exact Or.inr rfl))) (fun _ _ _ _ _ => (@pts_nil _)) (fun _ _ _ _ _ => (@pe_call _ _ _ _ _ _ _ _ _ _ _ _ _ _ _ _ G__law_new (hr.mono (by omega)) rfl T.m__law_new T.F__law_new.kp T.b__law_new .nil pass0 (@pa_cons _ _ _ _ _ (@pe_ix _ _ _ _ _ _ _ (kix_list K) (pv 2) (pv 0) (fun _ _ => rfl)) (@pa_cons _ _ _ _ _ (pv 1) (@pa_nil _) (by rfl)) (by rfl)) (by decide) (by rfl) (by rfl)))) (@pa_cons _ _ _ _ _ (@pe_int _ _ _ _) (@pa_nil _) (by rfl)) (by rfl)) (by rfl))) (@pa_cons _ _ _ _ _ (pv 7) (@pa_nil _) (by rfl)) (by rfl))))))))))), ?_⟩
    have hfew := gk.few
    have hbr := bf_row gk
    have hrl := hbr.few
    obtain ⟨ga, ub, un, rfl, g1, g2, g3, g4, g5⟩ := hg.ex
    have hul : un.length = ns.length := by rw [g5.len, List.length_map]
    walk_at "go"
    refine i_asgT (SqT.of g1) rfl ?_
    walk_at "run"
    intro pr0 H1 f1 s1 e1
    walk_at "run"
    refine i_while (fun m σ H' => Same H H' ∧ ∃ (p : Nat) (row : List Nat) (pr : Addr) (y : Option V), σ = [some (.ref ga), some (.ref b), some (.ref n), some (.int (f : Nat)), some (.ref pr), some (.int (p : Nat)), y, none, none] ∧ m = ns.length + 1 - p ∧ Bf (nxN ns) ns.length p row ∧ bfs (nxN ns) (ns.length + 1 - p) p row = rowN ns f ∧ H' pr = some (.lst (natsV row))) (ns.length + 1) ⟨s1, 0, [f], pr0, _, rfl, rfl, bf_zero gk, rfl, e1⟩ ?_
    rintro m σ H3 ⟨s3, p, row, pr, y, rfl, rfl, hb, hrow, hpr⟩
    have hbl3 := hb.le
    have hbf := hb.few
    walk_at "run"
    refine i_lenL (SqL.of hpr) ?_
    walk_at "run"
    rw [natsV_len]
    refine ite2 (fun hc => ?_) (fun hc => ?_)
    · have hp : p < row.length := by have := of_decide_eq_true hc; omega
      have ep : row[p]? = some row[p] := List.getElem?_eq_getElem hp
      have hkn : row[p] < ns.length := hb.lt _ (List.getElem_mem hp)
      obtain ⟨u, hu2, hut⟩ := ats_at0 (g5.same s3) hkn
      obtain ⟨x1, x2⟩ := Gok.nexts gk hkn
      have hbfs : bfs (nxN ns) (ns.length + 1 - (p + 1)) (p + 1) (addAll row (nxN ns row[p])) = rowN ns f := by rw [← hrow, show ns.length + 1 - p = (ns.length + 1 - (p + 1)) + 1 by omega, bfs_go ep]
      refine ⟨fun σ' H' => Same H H' ∧ ∃ (pr : Addr) (y : Option V), σ' = [some (.ref ga), some (.ref b), some (.ref n), some (.int (f : Nat)), some (.ref pr), some (.int ((p : Int) + 1)), y, none, none] ∧ H' pr = some (.lst (natsV (addAll row (nxN ns row[p])))), fun σ' H' ⟨s', pr, y, e, h1⟩ => ⟨ns.length + 1 - (p + 1), by omega, s', p + 1, addAll row (nxN ns row[p]), pr, y, e, rfl, hb.step ep (nx_lt gk _ hkn), hbfs, h1⟩, ?_⟩
      walk_at "run"
      refine i_ixL (SqL.of hpr) (atI_nats hp) ?_
      rw [show row.getD p 0 = row[p] by simp [hp]]
      refine i_ixL (SqL.of (s3 _ _ g4)) hu2 ?_
      walk_at "run"
      refine ⟨u, ns.getD row[p] .back, rfl, hut, x2, fun px H4 f4 s4 e4 => ?_⟩
      walk_at "run"
      have hx : SqL K H4 px (natsV (nxN ns row[p])) := SqL.of e4
      refine ⟨⟨_, hx⟩, for_list (K := K) (a := px) (xs := natsV (nxN ns row[p])) (fun j σ H' => Same H4 H' ∧ j ≤ (nxN ns row[p]).length ∧ ∃ pr y, σ = [some (.ref ga), some (.ref b), some (.ref n), some (.int (f : Nat)), some (.ref pr), some (.int (p : Nat)), y, none, none] ∧ H' pr = some (.lst (natsV (addAll row ((nxN ns row[p]).take j))))) ⟨Same.refl _, Nat.zero_le _, pr, _, rfl, s4 _ _ hpr⟩ (fun j σ H' _ ⟨s', _⟩ => SqL.of (s' _ _ e4)) ?_ ?_⟩
      · rintro j v σ H5 hj ⟨s5, hjl, pr, y, rfl, hr5⟩
        obtain ⟨k, hk, rfl⟩ := natsV_get hj
        have hj' : j < (nxN ns row[p]).length := (List.getElem?_eq_some_iff.mp hk).1
        have hall : ∀ x ∈ (nxN ns row[p]).take j, x < ns.length := fun x hx => nx_lt gk _ hkn x (List.mem_of_mem_take hx)
        have hfw := row_few hb.nd hb.lt hall
        have htk : (nxN ns row[p]).take (j + 1) = (nxN ns row[p]).take j ++ [k] := by rw [List.take_add_one, hk]; rfl
        have hq : SqL K H5 pr (((addAll row ((nxN ns row[p]).take j)).map fun (k : Nat) => (k : Int)).map V.int) := by
          rw [← natsV_int]
          exact SqL.of hr5
        walk_at "run"
        refine i_notInI hq ?_
        walk_at "run"
        by_cases hm : k ∈ addAll row ((nxN ns row[p]).take j)
        · refine i_itNF (mem_nats.mpr hm) ?_
          walk_at "run"
          refine ⟨s5, hj', pr, _, rfl, ?_⟩
          rw [htk, addAll_snoc, if_pos hm]; exact hr5
        · refine i_itNT (fun z => hm (mem_nats.mp z)) ?_
          walk_at "run"
          intro p6 H6 f6 s6 e6
          walk_at "run"
          refine i_plusL (s6 _ _ hr5) e6 (le_line (by rw [natsV_len]; simp; omega)) ?_
          intro p7 H7 f7 s7 e7
          walk_at "run"
          refine ⟨s5.trans (s6.trans s7), hj', p7, _, rfl, ?_⟩
          rw [e7, htk, addAll_snoc, if_neg hm]
          exact congrArg (fun x => some (HO.lst x)) (natsV_snoc _ k)
      · rintro σ H5 ⟨s5, hjl, pr, y, rfl, hr5⟩
        rw [natsV_len, List.take_length] at hr5
        walk_at "run"
        exact ⟨s3.trans (s4.trans s5), pr, _, rfl, hr5⟩
    · have hp : row.length ≤ p := by
        refine Nat.le_of_not_lt fun z => hc ?_
        exact decide_eq_true (by omega)
      rw [bfs_stop hp] at hrow
      rw [hrow] at hpr
      walk_at "run"
      intro p4 H4 f4 s4 e4
      walk_at "run"
      refine i_lenL (SqL.of (s4 _ _ (s3 _ _ g4))) ?_
      walk_at "run"
      rw [hul]
      refine i_repNone e4 (by omega) ?_
      intro pw H5 f5 s5 e5
      walk_at "run"
      have s35 := s4.trans s5
      refine i_lenL (SqL.of (s35 _ _ hpr)) ?_
      walk_at "run"
      rw [natsV_len]
      refine ⟨by omega, by omega, ?_⟩
      refine for_range (lo := 0) (n := (rowN ns f).length) (fun i σ H' => ∃ (y2 : Option V), σ = [some (.ref ga), some (.ref b), some (.ref n), some (.int (f : Nat)), some (.ref pr), some (.int (p : Nat)), y, some (.ref pw), y2] ∧ Same H3 H' ∧ H' pw = some (.lst (waysV (posT (rowN ns f) ns.length i)))) ⟨_, rfl, s35, by rw [posT_zero]; exact e5⟩ ?_ ?_
      · rintro i σ H6 hi ⟨y2, rfl, s6, e6⟩
        rw [Int.zero_add]
        have ei : (rowN ns f)[i]? = some (rowN ns f)[i] := List.getElem?_eq_getElem hi
        have hin : (rowN ns f)[i] < ns.length := hbr.lt _ (List.getElem_mem hi)
        walk_at "run"
        refine i_ixL (SqL.of (s6 _ _ hpr)) (atI_nats hi) ?_
        rw [show (rowN ns f).getD i 0 = (rowN ns f)[i] by simp [hi]]
        refine i_setL e6 (j := (rowN ns f)[i]) (by unfold ixN; rw [if_pos (by omega), if_pos (by simp [waysV, posT_len]; omega)]; simp) ?_
        refine ⟨_, rfl, s6.updNew (s4.free f5), ?_⟩
        rw [upd_same, ← posT_succ hbr.nd ei hin]
        simp [waysV, List.map_set, wayV]
      · rintro σ H6 ⟨y2, rfl, s6, e6⟩
        rw [posT_all] at e6
        walk_at "run"
        have s36 := s3.trans s6
        refine i_listL (SqL.of (s36 _ _ g2)) ?_
        intro pb H8 f8 s8 e8
        walk_at "run"
        have hrow8 := s8 _ _ (s6 _ _ hpr)
        have sD := s36.trans s8
        refine ⟨⟨_, SqL.of hrow8⟩, cc_list (xs := natsV (rowN ns f)) (le_line (by rw [natsV_len]; omega)) (fun i acc H' => Same H8 H' ∧ i ≤ (rowN ns f).length ∧ Tr.Ats H' ((((rowN ns f).take i).map fun i => (ns.getD i .back).ren fun k => (rowN ns f).idxOf k).map Nd.tr) acc []) ⟨Same.refl _, Nat.zero_le _, ats_nil0.mpr rfl⟩ (fun i acc H' ⟨s', hi, e⟩ => ⟨?_, SqL.of (s' _ _ hrow8)⟩) ?_ ?_⟩
        · rw [e.len]
          simp only [List.length_map, List.length_take]
          omega
        · rintro i x acc H' hx ⟨s', hi, e⟩
          obtain ⟨k, hk, rfl⟩ := natsV_get hx
          have hi' : i < (rowN ns f).length := (List.getElem?_eq_some_iff.mp hk).1
          have hkl : k < ns.length := hbr.lt k (List.mem_of_getElem? hk)
          have sE := sD.trans s'
          obtain ⟨u, hu, hut⟩ := ats_at0 (g5.same sE) hkl
          walk_at "run"
          refine i_ixL (SqL.of (sE _ _ g4)) hu ?_
          walk_at "run"
          obtain ⟨x1, x2⟩ := Gok.nexts gk hkl
          refine ⟨u, pw, ns.getD k .back, _, (fun k => (rowN ns f).idxOf k), rfl, hut, (s8.trans s') _ _ e6, fun j hj => ?_, x2, fun v' H9 s9 h9 => ?_⟩
          · have hjm := hbr.cl i k hi' hk j hj
            exact atI_ways (by rw [posW_at (hbr.lt j hjm), if_pos hjm])
          · refine ⟨s'.trans s9, hi', ?_⟩
            rw [← cutN_snoc hk]
            exact ats_snoc0 (e.same s9) h9
        · rintro acc H9 ⟨s9, _, hac⟩ pn H10 f10 s10 e10
          rw [natsV_len, List.take_length] at hac
          walk_at "run"
          intro pg H11 f11 s11 e11
          walk_at "run"
          intro po H12 f12 s12 e12
          have sZ := s11.trans s12
          have sY := s9.trans (s10.trans sZ)
          refine q _ _ pb pn pw (sD.trans sY) (s36.free f8) ((sD.trans s9).free f10) (s3.free (s4.free f5)) ⟨po, pg, rfl, e12, ⟨pg, ub, acc, rfl, s12 _ _ e11, sY _ _ e8, g3.same (sD.trans sY), sZ _ _ e10, hac.same (s10.trans sZ)⟩, (s8.trans sY) _ _ e6⟩
def sp_law (K : PySem.W.Frag) : Sp := fun vs H Q _ => ∃ (a : Addr) (ns : List Int), vs = [.ref a] ∧ SqL K H a (ns.map V.int) ∧ ns.length ≤ 63 ∧ ∀ H', Q (.bl true) H'
theorem ok_law (T : Txt K mg t) : FnOk P w K mg base CX0 5 t.a_law t.fd_law ["script"] (sp_law K) := by
  have G__law_due := ok_law_due (P := P) (w := w) (base := base) T
  have G__law_graph := ok_law_graph (P := P) (w := w) (base := base) T
  have G_cut := ok_cut (P := P) (w := w) (base := base) T
  refine T.F_law.ok sc_law (fun vs H Q E h => ?_) (fun cdv A outer s H vs Q E hr h => ?_)
  · obtain ⟨a, ns, rfl, _⟩ := h
    rfl
  · obtain ⟨a, ns, rfl, hS, hl, q⟩ := h
    refine ⟨_, (@pss_cons _ _ _ _ _ (@ps_set _ _ 1 _ _ _ _ sc_law.nd rfl (by first | exact Or.inl rfl | exact Or.inr rfl) (@pe_call _ _ _ _ _ _ _ _ _ _ _ _ _ _ _ _ G__law_graph (hr.mono (by omega)) rfl T.m__law_graph T.F__law_graph.kp T.b__law_graph .nil pass0 (@pa_cons _ _ _ _ _ (pv 0) (@pa_nil _) (by rfl)) (by decide) (by rfl) (by rfl)) (by rfl) (by first | exact Or.inl rfl | exact Or.inr rfl))
      (@pss_cons _ _ _ _ _ (@ps_set _ _ 2 _ _ _ _ sc_law.nd rfl (by first | exact Or.inl rfl | exact Or.inr rfl) (@pe_tupN _ _ _ _ _ (@pa_cons _ _ _ _ _ (@pe_callTy _ _ _ _ _ _ _ _ _ (kcl_list K) (by rfl) T.z_list bb_list (@pa_cons _ _ _ _ _ (@pe_ix _ _ _ _ _ _ _ (kix_tup K) (pv 1) (@pe_int _ _ _ _) (fun _ _ => rfl)) (@pa_nil _) (by rfl)) (by decide) (by decide) (by rfl) (by rfl)) (@pa_cons _ _ _ _ _ (@pe_callTy _ _ _ _ _ _ _ _ _ (kcl_list K) (by rfl) T.z_list bb_list (@pa_cons _ _ _ _ _ (@pe_ix _ _ _ _ _ _ _ (kix_tup K) (pv 1) (@pe_int _ _ _ _) (fun _ _ => rfl)) (@pa_nil _) (by rfl)) (by decide) (by decide) (by rfl) (by rfl)) (@pa_cons _ _ _ _ _ (@pe_ix _ _ _ _ _ _ _ (kix_tup K) (pv 1) (@pe_int _ _ _ _) (fun _ _ => rfl)) (@pa_nil _) (by rfl)) (by rfl)) (by rfl))) (by rfl) (by first | exact Or.inl rfl | exact Or.inr rfl))
      (@pss_cons _ _ _ _ _ (@ps_set _ _ 3 _ _ _ _ sc_law.nd rfl (by first | exact Or.inl rfl | exact Or.inr rfl) (@pe_call _ _ _ _ _ _ _ _ _ _ _ _ _ _ _ _ G_cut (hr.mono (by omega)) rfl T.m_cut T.F_cut.kp T.b_cut .nil pass0 (@pa_cons _ _ _ _ _ (pv 2) (@pa_nil _) (by rfl)) (by decide) (by rfl) (by rfl)) (by rfl) (by first | exact Or.inl rfl | exact Or.inr rfl))
      (@pss_cons _ _ _ _ _ (@ps_if _ _ _ _ _ _ _ _ (@PW.pt _ _ _ (@pw_or _ _ _ _ _ _ _ (@pt_not _ _ _ _ (kpt_tru K (@pe_callB _ _ _ _ _ _ _ _ _ (kcl_isi K) (by rfl) T.z_isinstance bb_isinstance (@pa_cons _ _ _ _ _ (pv 3) (@pa_cons _ _ _ _ _ (pe_bltn (v := .ty "tuple") (by rfl) T.z_tuple bb_tuple rfl) (@pa_nil _) (by rfl)) (by rfl)) (by decide) (by decide) (by rfl) (by rfl)) (fun _ => rfl))) (@pw_or _ _ _ _ _ _ _ (@pt_cmpR _ _ _ _ _ _ _ _ (kop_neU (by exact hr.units)) (pv 3) (@pe_call _ _ _ _ _ _ _ _ _ _ _ _ _ _ _ _ G__law_due (hr.mono (by omega)) rfl T.m__law_due T.F__law_due.kp T.b__law_due .nil pass0 (@pa_cons _ _ _ _ _ (pv 1) (@pa_nil _) (by rfl)) (by decide) (by rfl) (by rfl)) (nomark _)) (@pw_or1 _ _ _ _ (@pt_cmpR _ _ _ _ _ _ _ _ (kop_neU (by exact hr.units)) (pv 2) (pv 1) (nomark _)))))) (@pss_one _ _ _ (@ps_ret _ _ _ _ (@pe_bl _ _ _ _))) (@pss_nil _))
      (@pss_cons _ _ _ _ _ (@ps_expr _ _ _ _ (kpe_bm0 K PySem.F.plainAttrs_list PySem.F.slot_list_clear PySem.F.type_list_clear mt_clear (@pe_ix _ _ _ _ _ _ _ (kix_tup K) (@pe_ix _ _ _ _ _ _ _ (kix_tup K) (pv 3) (@pe_int _ _ _ _) (fun _ _ => rfl)) (@pe_int _ _ _ _) (fun _ _ => rfl))) (by rfl))
      (@pss_cons _ _ _ _ _ (@ps_expr _ _ _ _ (kpe_bm0 K PySem.F.plainAttrs_list PySem.F.slot_list_clear PySem.F.type_list_clear mt_clear (@pe_ix _ _ _ _ _ _ _ (kix_tup K) (pv 3) (@pe_int _ _ _ _) (fun _ _ => rfl))) (by rfl))
      (@pss_one _ _ _ (@ps_ret _ _ _ _ (@pe_and _ _ _ _ _ _ _ (@pe_cmpR _ _ _ _ _ _ _ _ (kop_eqT (by exact hr.units)) (@pe_call _ _ _ _ _ _ _ _ _ _ _ _ _ _ _ _ G_cut (hr.mono (by omega)) rfl T.m_cut T.F_cut.kp T.b_cut .nil pass0 (@pa_cons _ _ _ _ _ (pv 2) (@pa_nil _) (by rfl)) (by decide) (by rfl) (by rfl)) (@pe_call _ _ _ _ _ _ _ _ _ _ _ _ _ _ _ _ G__law_due (hr.mono (by omega)) rfl T.m__law_due T.F__law_due.kp T.b__law_due .nil pass0 (@pa_cons _ _ _ _ _ (pv 1) (@pa_nil _) (by rfl)) (by decide) (by rfl) (by rfl)) (nomark _)) (@pe_one _ _ _ _ _ (@pe_cmpR _ _ _ _ _ _ _ _ (kop_eqT (by exact hr.units)) (pv 2) (pv 1) (nomark _)))))))))))), ?_⟩
    walk_at "go"
    refine ⟨a, ns, rfl, hS, fun v H1 bs ds f b n s1 hg gk hbx => ?_⟩
    have hbl : bs.length ≤ 100 := by
      have := congrArg List.length hbx
      simp at this
      omega
    obtain ⟨ga, ub, un, rfl, g1, g2, g3, g4, g5⟩ := hg.ex
    walk_at "run"
    refine i_ixT (SqT.of g1) (atI_nat (j := 0) rfl) ?_
    walk_at "run"
    refine i_listL (SqL.of g2) ?_
    intro hb H2 f2 s2 e2
    walk_at "run"
    refine i_ixT (SqT.of (s2 _ _ g1)) (atI_nat (j := 1) rfl) ?_
    walk_at "run"
    refine i_listL (SqL.of (s2 _ _ g4)) ?_
    intro hn H3 f3 s3 e3
    walk_at "run"
    have s23 := s2.trans s3
    refine i_ixT (SqT.of (s23 _ _ g1)) (atI_nat (j := 2) rfl) ?_
    walk_at "run"
    intro ph H4 f4 s4 e4
    walk_at "run"
    have s14 := s23.trans s4
    have hh : GAt H4 (.ref ph) bs ds f hb hn := ⟨ph, ub, un, rfl, e4, (s3.trans s4) _ _ e2, g3.same s14, s4 _ _ e3, g5.same s14⟩
    have hg4 := hg.same s14
    refine ⟨_, hb, hn, bs, ds, f, rfl, hh, gk, hbl, fun v5 H5 b5 n5 l5 s5 fb fn fl o5 => ?_⟩
    obtain ⟨a5, g5', rfl, x1, x2, x3⟩ := o5.ex
    obtain ⟨_, ub5, un5, hgr, y1, y2, y3, y4, y5⟩ := x2.ex
    cases hgr
    walk_at "run"
    refine i_isiT x1 ?_
    walk_at "run"
    refine ⟨_, b, n, bs, ds, f, rfl, hg4.same s5, gk, hbl, fun v6 H6 b6 n6 l6 s6 fb6 fn6 fl6 o6 => ?_⟩
    refine i_neU (o5.mono s6).tree o6.tree (Nat.le_trans (gk.cut_hs _) (by decide)) ?_
    walk_at "run"
    refine i_neU (hh.same (s5.trans s6)).tree (hg4.same (s5.trans s6)).tree (Nat.le_trans gk.ghs (by decide)) ?_
    walk_at "run"
    refine i_ixT (SqT.of (s6 _ _ x1)) (atI_nat (j := 0) rfl) ?_
    walk_at "run"
    refine i_ixT (SqT.of (s6 _ _ y1)) (atI_nat (j := 1) rfl) ?_
    walk_at "run"
    refine i_tyL (SqL.of (s6 _ _ y4)) ?_
    walk_at "run"
    have y46 := s6 _ _ y4
    refine i_clear y46 ?_
    walk_at "run"
    have t7 : Tups H5 (upd H6 n5 (.lst [])) := s6.tups.trans (Tups.upd y46)
    refine i_ixT (SqT.of (t7 _ _ x1)) (atI_nat (j := 1) rfl) ?_
    walk_at "run"
    obtain ⟨zs, hz⟩ := lst_upd (m := n5) (zs := []) (s6 _ _ x3)
    refine i_tyL (SqL.of hz) ?_
    walk_at "run"
    refine i_clear hz ?_
    walk_at "run"
    have sK : Same H4 (upd (upd H6 n5 (.lst [])) l5 (.lst [])) := ((s5.trans s6).updNew fn).updNew fl
    generalize (upd (upd H6 n5 (.lst [])) l5 (.lst [])) = H9 at sK
    refine ⟨_, hb, hn, bs, ds, f, rfl, hh.same sK, gk, hbl, fun v10 H10 b10 n10 l10 s10 _ _ _ o10 => ?_⟩
    walk_at "run"
    refine ⟨_, b, n, bs, ds, f, rfl, hg4.same (sK.trans s10), gk, hbl, fun v11 H11 b11 n11 l11 s11 _ _ _ o11 => ?_⟩
    refine i_eqT (o10.mono s11).tree o11.tree (Nat.le_trans (gk.cut_hs _) (by decide)) ?_
    walk_at "run"
    refine i_eqT (hh.same (sK.trans (s10.trans s11))).tree (hg4.same (sK.trans (s10.trans s11))).tree (Nat.le_trans gk.ghs (by decide)) ?_
    exact q _
end
theorem all_mk {l : PySem.W.OpenLaw} {w : World} {K : PySem.W.Frag} {h : Heap} {mg : Str → Option Value} {fa : Addr} (X : K.In h) (G : h.Ns mainGlobals mg) (hfa : mg "law" = some (.ref fa))
    {f0 : Addr} {od0 an0 : Option Addr} {sl0 : Array (Option Value)} {oc0 kV0 dc0 pm0 cd0 ct0 : Value}
    {f1 : Addr} {od1 an1 : Option Addr} {sl1 : Array (Option Value)} {oc1 kV1 dc1 pm1 cd1 ct1 : Value}
    {f2 : Addr} {od2 an2 : Option Addr} {sl2 : Array (Option Value)} {oc2 kV2 dc2 pm2 cd2 ct2 : Value}
    {f3 : Addr} {od3 an3 : Option Addr} {sl3 : Array (Option Value)} {oc3 kV3 dc3 pm3 cd3 ct3 : Value}
    {f4 : Addr} {od4 an4 : Option Addr} {sl4 : Array (Option Value)} {oc4 kV4 dc4 pm4 cd4 ct4 : Value}
    {f5 : Addr} {od5 an5 : Option Addr} {sl5 : Array (Option Value)} {oc5 kV5 dc5 pm5 cd5 ct5 : Value}
    {f6 : Addr} {od6 an6 : Option Addr} {sl6 : Array (Option Value)} {oc6 kV6 dc6 pm6 cd6 ct6 : Value}
    {f7 : Addr} {od7 an7 : Option Addr} {sl7 : Array (Option Value)} {oc7 kV7 dc7 pm7 cd7 ct7 : Value}
    {f8 : Addr} {od8 an8 : Option Addr} {sl8 : Array (Option Value)} {oc8 kV8 dc8 pm8 cd8 ct8 : Value}
    {f9 : Addr} {od9 an9 : Option Addr} {sl9 : Array (Option Value)} {oc9 kV9 dc9 pm9 cd9 ct9 : Value}
    {f10 : Addr} {od10 an10 : Option Addr} {sl10 : Array (Option Value)} {oc10 kV10 dc10 pm10 cd10 ct10 : Value}
    {f11 : Addr} {od11 an11 : Option Addr} {sl11 : Array (Option Value)} {oc11 kV11 dc11 pm11 cd11 ct11 : Value}
    {f12 : Addr} {od12 an12 : Option Addr} {sl12 : Array (Option Value)} {oc12 kV12 dc12 pm12 cd12 ct12 : Value}
    {f13 : Addr} {od13 an13 : Option Addr} {sl13 : Array (Option Value)} {oc13 kV13 dc13 pm13 cd13 ct13 : Value}
    (a0 : PySem.W.nsIn K mainGlobals "next_ones" = some (some (.ref f0))) (l0 : K.lookup f0 = some ⟨oc0, od0, .func (PySem.W.fnOf "next_ones" "next_ones" (defArgs s_next_ones) (defBody s_next_ones) (defScope s_next_ones) .none kV0 dc0 pm0 an0 cd0 ct0), sl0⟩) (c0 : PySem.W.codeIn K cd0 "next_ones" = true) (k0 : PySem.W.keepIn K (.ref f0) = true)
    (a1 : PySem.W.nsIn K mainGlobals "renumbered" = some (some (.ref f1))) (l1 : K.lookup f1 = some ⟨oc1, od1, .func (PySem.W.fnOf "renumbered" "renumbered" (defArgs s_renumbered) (defBody s_renumbered) (defScope s_renumbered) .none kV1 dc1 pm1 an1 cd1 ct1), sl1⟩) (c1 : PySem.W.codeIn K cd1 "renumbered" = true) (k1 : PySem.W.keepIn K (.ref f1) = true)
    (a2 : PySem.W.nsIn K mainGlobals "cut" = some (some (.ref f2))) (l2 : K.lookup f2 = some ⟨oc2, od2, .func (PySem.W.fnOf "cut" "cut" (defArgs s_cut) (defBody s_cut) (defScope s_cut) .none kV2 dc2 pm2 an2 cd2 ct2), sl2⟩) (c2 : PySem.W.codeIn K cd2 "cut" = true) (k2 : PySem.W.keepIn K (.ref f2) = true)
    (a3 : PySem.W.nsIn K mainGlobals "found_from" = some (some (.ref f3))) (l3 : K.lookup f3 = some ⟨oc3, od3, .func (PySem.W.fnOf "found_from" "found_from" (defArgs s_found_from) (defBody s_found_from) (defScope s_found_from) .none kV3 dc3 pm3 an3 cd3 ct3), sl3⟩) (c3 : PySem.W.codeIn K cd3 "found_from" = true) (k3 : PySem.W.keepIn K (.ref f3) = true)
    (a4 : PySem.W.nsIn K mainGlobals "_law_cell_at" = some (some (.ref f4))) (l4 : K.lookup f4 = some ⟨oc4, od4, .func (PySem.W.fnOf "_law_cell_at" "_law_cell_at" (defArgs s_law_cell_at) (defBody s_law_cell_at) (defScope s_law_cell_at) .none kV4 dc4 pm4 an4 cd4 ct4), sl4⟩) (c4 : PySem.W.codeIn K cd4 "_law_cell_at" = true) (k4 : PySem.W.keepIn K (.ref f4) = true)
    (a5 : PySem.W.nsIn K mainGlobals "_law_expr" = some (some (.ref f5))) (l5 : K.lookup f5 = some ⟨oc5, od5, .func (PySem.W.fnOf "_law_expr" "_law_expr" (defArgs s_law_expr) (defBody s_law_expr) (defScope s_law_expr) .none kV5 dc5 pm5 an5 cd5 ct5), sl5⟩) (c5 : PySem.W.codeIn K cd5 "_law_expr" = true) (k5 : PySem.W.keepIn K (.ref f5) = true)
    (a6 : PySem.W.nsIn K mainGlobals "_law_cond" = some (some (.ref f6))) (l6 : K.lookup f6 = some ⟨oc6, od6, .func (PySem.W.fnOf "_law_cond" "_law_cond" (defArgs s_law_cond) (defBody s_law_cond) (defScope s_law_cond) .none kV6 dc6 pm6 an6 cd6 ct6), sl6⟩) (c6 : PySem.W.codeIn K cd6 "_law_cond" = true) (k6 : PySem.W.keepIn K (.ref f6) = true)
    (a7 : PySem.W.nsIn K mainGlobals "_law_wait" = some (some (.ref f7))) (l7 : K.lookup f7 = some ⟨oc7, od7, .func (PySem.W.fnOf "_law_wait" "_law_wait" (defArgs s_law_wait) (defBody s_law_wait) (defScope s_law_wait) .none kV7 dc7 pm7 an7 cd7 ct7), sl7⟩) (c7 : PySem.W.codeIn K cd7 "_law_wait" = true) (k7 : PySem.W.keepIn K (.ref f7) = true)
    (a8 : PySem.W.nsIn K mainGlobals "_law_node" = some (some (.ref f8))) (l8 : K.lookup f8 = some ⟨oc8, od8, .func (PySem.W.fnOf "_law_node" "_law_node" (defArgs s_law_node) (defBody s_law_node) (defScope s_law_node) .none kV8 dc8 pm8 an8 cd8 ct8), sl8⟩) (c8 : PySem.W.codeIn K cd8 "_law_node" = true) (k8 : PySem.W.keepIn K (.ref f8) = true)
    (a9 : PySem.W.nsIn K mainGlobals "_law_graph" = some (some (.ref f9))) (l9 : K.lookup f9 = some ⟨oc9, od9, .func (PySem.W.fnOf "_law_graph" "_law_graph" (defArgs s_law_graph) (defBody s_law_graph) (defScope s_law_graph) .none kV9 dc9 pm9 an9 cd9 ct9), sl9⟩) (c9 : PySem.W.codeIn K cd9 "_law_graph" = true) (k9 : PySem.W.keepIn K (.ref f9) = true)
    (a10 : PySem.W.nsIn K mainGlobals "_law_nexts" = some (some (.ref f10))) (l10 : K.lookup f10 = some ⟨oc10, od10, .func (PySem.W.fnOf "_law_nexts" "_law_nexts" (defArgs s_law_nexts) (defBody s_law_nexts) (defScope s_law_nexts) .none kV10 dc10 pm10 an10 cd10 ct10), sl10⟩) (c10 : PySem.W.codeIn K cd10 "_law_nexts" = true) (k10 : PySem.W.keepIn K (.ref f10) = true)
    (a11 : PySem.W.nsIn K mainGlobals "_law_new" = some (some (.ref f11))) (l11 : K.lookup f11 = some ⟨oc11, od11, .func (PySem.W.fnOf "_law_new" "_law_new" (defArgs s_law_new) (defBody s_law_new) (defScope s_law_new) .none kV11 dc11 pm11 an11 cd11 ct11), sl11⟩) (c11 : PySem.W.codeIn K cd11 "_law_new" = true) (k11 : PySem.W.keepIn K (.ref f11) = true)
    (a12 : PySem.W.nsIn K mainGlobals "_law_due" = some (some (.ref f12))) (l12 : K.lookup f12 = some ⟨oc12, od12, .func (PySem.W.fnOf "_law_due" "_law_due" (defArgs s_law_due) (defBody s_law_due) (defScope s_law_due) .none kV12 dc12 pm12 an12 cd12 ct12), sl12⟩) (c12 : PySem.W.codeIn K cd12 "_law_due" = true) (k12 : PySem.W.keepIn K (.ref f12) = true)
    (a13 : PySem.W.nsIn K mainGlobals "law" = some (some (.ref f13))) (l13 : K.lookup f13 = some ⟨oc13, od13, .func (PySem.W.fnOf "law" "law" (defArgs s_law) (defBody s_law) (defScope s_law) .none kV13 dc13 pm13 an13 cd13 ct13), sl13⟩) (c13 : PySem.W.codeIn K cd13 "law" = true) (k13 : PySem.W.keepIn K (.ref f13) = true)
    (z_dict : PySem.W.nsIn K mainGlobals "dict" = some none)
    (z_enumerate : PySem.W.nsIn K mainGlobals "enumerate" = some none)
    (z_isinstance : PySem.W.nsIn K mainGlobals "isinstance" = some none)
    (z_len : PySem.W.nsIn K mainGlobals "len" = some none)
    (z_list : PySem.W.nsIn K mainGlobals "list" = some none)
    (z_min : PySem.W.nsIn K mainGlobals "min" = some none)
    (z_range : PySem.W.nsIn K mainGlobals "range" = some none)
    (z_tuple : PySem.W.nsIn K mainGlobals "tuple" = some none)
    : ∃ fd : FuncData, (∀ (s : Shared) (v : Value), BindsTo s fd ⟨[v], []⟩ [("script", v)]) ∧ ∀ base : Heap, K.In base → base.Ns mainGlobals mg → FnOk l.prog w K mg base CX0 5 fa fd ["script"] (sp_law K) := by
  have e := hfa.symm.trans (PySem.W.mg_of X G a13)
  cases e
  have F0 := fun_mk (st := s_next_ones) l0 c0 k0
  have b0 := F0.binds (ps := ["node"]) fun _ _ _ _ _ _ us hl => match us, hl with | [_], _ => rfl
  have F1 := fun_mk (st := s_renumbered) l1 c1 k1
  have b1 := F1.binds (ps := ["node", "numbers"]) fun _ _ _ _ _ _ us hl => match us, hl with | [_, _], _ => rfl
  have F2 := fun_mk (st := s_cut) l2 c2 k2
  have b2 := F2.binds (ps := ["graph"]) fun _ _ _ _ _ _ us hl => match us, hl with | [_], _ => rfl
  have F3 := fun_mk (st := s_found_from) l3 c3 k3
  have b3 := F3.binds (ps := ["ways", "first"]) fun _ _ _ _ _ _ us hl => match us, hl with | [_, _], _ => rfl
  have F4 := fun_mk (st := s_law_cell_at) l4 c4 k4
  have b4 := F4.binds (ps := ["script", "k"]) fun _ _ _ _ _ _ us hl => match us, hl with | [_, _], _ => rfl
  have F5 := fun_mk (st := s_law_expr) l5 c5 k5
  have b5 := F5.binds (ps := ["d"]) fun _ _ _ _ _ _ us hl => match us, hl with | [_], _ => rfl
  have F6 := fun_mk (st := s_law_cond) l6 c6 k6
  have b6 := F6.binds (ps := ["d"]) fun _ _ _ _ _ _ us hl => match us, hl with | [_], _ => rfl
  have F7 := fun_mk (st := s_law_wait) l7 c7 k7
  have b7 := F7.binds (ps := ["d", "number", "low", "high"]) fun _ _ _ _ _ _ us hl => match us, hl with | [_, _, _, _], _ => rfl
  have F8 := fun_mk (st := s_law_node) l8 c8 k8
  have b8 := F8.binds (ps := ["cell", "number", "low", "high", "deep"]) fun _ _ _ _ _ _ us hl => match us, hl with | [_, _, _, _, _], _ => rfl
  have F9 := fun_mk (st := s_law_graph) l9 c9 k9
  have b9 := F9.binds (ps := ["script"]) fun _ _ _ _ _ _ us hl => match us, hl with | [_], _ => rfl
  have F10 := fun_mk (st := s_law_nexts) l10 c10 k10
  have b10 := F10.binds (ps := ["node"]) fun _ _ _ _ _ _ us hl => match us, hl with | [_], _ => rfl
  have F11 := fun_mk (st := s_law_new) l11 c11 k11
  have b11 := F11.binds (ps := ["node", "where"]) fun _ _ _ _ _ _ us hl => match us, hl with | [_, _], _ => rfl
  have F12 := fun_mk (st := s_law_due) l12 c12 k12
  have b12 := F12.binds (ps := ["graph"]) fun _ _ _ _ _ _ us hl => match us, hl with | [_], _ => rfl
  have F13 := fun_mk (st := s_law) l13 c13 k13
  have b13 := F13.binds (ps := ["script"]) fun _ _ _ _ _ _ us hl => match us, hl with | [_], _ => rfl
  have TT : Txt K mg ⟨_, _, _, _, _, _, _, _, _, _, _, _, _, _, _, _, _, _, _, _, _, _, _, _, _, _, _, _⟩ := ⟨F0, PySem.W.mg_of X G a0, b0, F1, PySem.W.mg_of X G a1, b1, F2, PySem.W.mg_of X G a2, b2, F3, PySem.W.mg_of X G a3, b3, F4, PySem.W.mg_of X G a4, b4, F5, PySem.W.mg_of X G a5, b5, F6, PySem.W.mg_of X G a6, b6, F7, PySem.W.mg_of X G a7, b7, F8, PySem.W.mg_of X G a8, b8, F9, PySem.W.mg_of X G a9, b9, F10, PySem.W.mg_of X G a10, b10, F11, PySem.W.mg_of X G a11, b11, F12, PySem.W.mg_of X G a12, b12, F13, PySem.W.mg_of X G a13, b13, PySem.W.mg_none_of X G z_dict, PySem.W.mg_none_of X G z_enumerate, PySem.W.mg_none_of X G z_isinstance, PySem.W.mg_none_of X G z_len, PySem.W.mg_none_of X G z_list, PySem.W.mg_none_of X G z_min, PySem.W.mg_none_of X G z_range, PySem.W.mg_none_of X G z_tuple⟩
  exact ⟨_, fun s v => .of_eq rfl, fun base _ _ => ok_law TT⟩
theorem walk {l : PySem.W.OpenLaw} {q : Program} {loose : List Str} {XP : (Str → Option Value) → Heap → Prop} {YP : World → Heap → Prop} {d : DefRec} {K : Params → PySem.W.Frag} (hn : l.most = some 63) (hdf : d.params.defaults = [])
    (hY : ∀ (w : World) (h : Heap), YP w h → (K w.params).In h)
    (F : ∀ (w : World) (mg : Str → Option Value) (fa : Addr) (h : Heap), (K w.params).In h → h.Ns mainGlobals mg → mg d.name = some (.ref fa) →
      ∃ fd : FuncData, (∀ (s : Shared) (u : Value), BindsTo s fd ⟨[u], []⟩ [("script", u)]) ∧ ∀ base : Heap, (K w.params).In base → base.Ns mainGlobals mg → FnOk l.prog w (K w.params) mg base CX0 5 fa fd ["script"] (sp_law (K w.params))) :
    PySem.W.WalkO q loose XP YP l.row.toRowW d [] (fun f vs => PySem.call f vs) :=
  L2.walk_of (n := 63) (k := 5) (x := "script") (CX := fun _ => CX0) (sp := fun w => sp_law (K w.params)) hn (by decide) hdf ⟨rfl, by decide, by decide⟩ hY F (fun _ _ a ns hl _ hS => ⟨a, ns, rfl, hS, hl, fun _ => rfl⟩) fun _ _ _ _ _ z => z
end K43
open PySem PySem.W PyProof.Rows
set_option maxRecDepth 100000 in
set_option maxHeartbeats 0 in
theorem PySem.Challenge.cw_callmill_k43_nodes_that_are_come_to_holds : PySem.Challenge.rw_callmill_k43_nodes_that_are_come_to.Holds := by
  w_on; o_law; k_head; (case hw => w_witness2)
  k_fill
  refine K43.walk (l := PySem.Challenge.rw_callmill_k43_nodes_that_are_come_to) rfl rfl (fun w h Y => PySem.W.kIn_of Y) ?F
  case F =>
    intro w mg fa h KX G hmg
    refine' K43.all_mk KX G hmg ?a0 ?l0 ?c0 ?k0 ?a1 ?l1 ?c1 ?k1 ?a2 ?l2 ?c2 ?k2 ?a3 ?l3 ?c3 ?k3 ?a4 ?l4 ?c4 ?k4 ?a5 ?l5 ?c5 ?k5 ?a6 ?l6 ?c6 ?k6 ?a7 ?l7 ?c7 ?k7 ?a8 ?l8 ?c8 ?k8 ?a9 ?l9 ?c9 ?k9 ?a10 ?l10 ?c10 ?k10 ?a11 ?l11 ?c11 ?k11 ?a12 ?l12 ?c12 ?k12 ?a13 ?l13 ?c13 ?k13 ?z_dict ?z_enumerate ?z_isinstance ?z_len ?z_list ?z_min ?z_range ?z_tuple
    (case a0 => k_is)
    (case l0 => k_is)
    (case c0 => k_is)
    (case k0 => k_is)
    (case a1 => k_is)
    (case l1 => k_is)
    (case c1 => k_is)
    (case k1 => k_is)
    (case a2 => k_is)
    (case l2 => k_is)
    (case c2 => k_is)
    (case k2 => k_is)
    (case a3 => k_is)
    (case l3 => k_is)
    (case c3 => k_is)
    (case k3 => k_is)
    (case a4 => k_is)
    (case l4 => k_is)
    (case c4 => k_is)
    (case k4 => k_is)
    (case a5 => k_is)
    (case l5 => k_is)
    (case c5 => k_is)
    (case k5 => k_is)
    (case a6 => k_is)
    (case l6 => k_is)
    (case c6 => k_is)
    (case k6 => k_is)
    (case a7 => k_is)
    (case l7 => k_is)
    (case c7 => k_is)
    (case k7 => k_is)
    (case a8 => k_is)
    (case l8 => k_is)
    (case c8 => k_is)
    (case k8 => k_is)
    (case a9 => k_is)
    (case l9 => k_is)
    (case c9 => k_is)
    (case k9 => k_is)
    (case a10 => k_is)
    (case l10 => k_is)
    (case c10 => k_is)
    (case k10 => k_is)
    (case a11 => k_is)
    (case l11 => k_is)
    (case c11 => k_is)
    (case k11 => k_is)
    (case a12 => k_is)
    (case l12 => k_is)
    (case c12 => k_is)
    (case k12 => k_is)
    (case a13 => k_is)
    (case l13 => k_is)
    (case c13 => k_is)
    (case k13 => k_is)
    (case z_dict => k_is)
    (case z_enumerate => k_is)
    (case z_isinstance => k_is)
    (case z_len => k_is)
    (case z_list => k_is)
    (case z_min => k_is)
    (case z_range => k_is)
    (case z_tuple => k_is)
