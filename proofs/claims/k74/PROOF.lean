import PyProof.Rows.All
import Wide.All
import OpenK.AllK
import Wide.FinOn
import Lean
import PyProof.EqAt
import PyProof.EqKinds
import PyProof.TupleCall
import PyProof.NeKinds
import PyProof.DictUpdate
import PyProof.AttrMissHeap
import KE.KDictOf
import PyProof.TupleIter
import PyProof.WalksEnum
import PyProof.EnumMake
import PyProof.Rows.EnumRows
import PyProof.Rows.MaxTwoN
import PyProof.ZipIter
import PyProof.IsRules
import PyProof.DictRoadsH
import Wide.Seal
import PyProof.MeetsDict
import PyProof.DictIter
import PyProof.DictWalks
import KE.KDictList
import PyProof.Rows.SumAny
import PyProof.ListRange
import PyProof.AutoSeq1
import PyProof.WalkInts
import PyProof.SeqI3
import PySem.Challenge.RW_callmill_k74_whole_machine_of_other_cell
set_option Elab.async false
set_option linter.all false
set_option maxRecDepth 100000
set_option maxHeartbeats 4000000
namespace L2
open PySem PySem.Spec PyProof.Rows
abbrev Key := Sum Int Str
def keyIs : Key → Value → Bool
  | .inl k, v => Value.isInt k v
  | .inr x, v => Value.isStrOf x v
def keyH (w : World) : Key → Int
  | .inl k => hashInt k
  | .inr x => hashStr w x
theorem keyIs_shape : ∀ {k : Key} {v : Value}, keyIs k v = true → (∃ i t, k = Sum.inl i ∧ v = Value.int i t) ∨ (∃ x t, k = Sum.inr x ∧ v = Value.str x t)
  | .inl i, v, h => by
    obtain ⟨t, e⟩ := Value.isInt_shape (k := i) (v := v) h
    exact .inl ⟨i, t, rfl, e⟩
  | .inr x, v, h => by
    obtain ⟨t, e⟩ := Value.isStrOf_shape (x := x) (v := v) h
    exact .inr ⟨x, t, rfl, e⟩
theorem keyIs_int (i : Int) (t : Tok) : keyIs (.inl i) (.int i t) = true := by simp [keyIs, Value.isInt]
theorem keyIs_str (x : Str) (t : Tok) : keyIs (.inr x) (.str x t) = true := by simp [keyIs, Value.isStrOf]
theorem key_ll (a b : Int) : decide ((Sum.inl a : Key) = Sum.inl b) = (a == b) := by
  by_cases e : a = b
  · subst e; simp
  · have h : ¬ (Sum.inl a : Key) = Sum.inl b := fun q => e (Sum.inl.inj q)
    rw [decide_eq_false h]
    exact (beq_eq_false_iff_ne.mpr e).symm
theorem key_rr (a b : Str) : decide ((Sum.inr a : Key) = Sum.inr b) = decide (a = b) := by
  by_cases e : a = b
  · subst e; simp
  · have h : ¬ (Sum.inr a : Key) = Sum.inr b := fun q => e (Sum.inr.inj q)
    rw [decide_eq_false h, decide_eq_false e]
theorem key_lr (a : Int) (b : Str) : decide ((Sum.inl a : Key) = Sum.inr b) = false := decide_eq_false (fun q => nomatch q)
theorem key_rl (a : Str) (b : Int) : decide ((Sum.inr a : Key) = Sum.inl b) = false := decide_eq_false (fun q => nomatch q)
def mixKind (prog : Program) (w : World) : PySem.KeyKind prog w Key where
  is := keyIs
  hash := keyH w
  inj := fun v a b ha hb => by
    rcases keyIs_shape ha with ⟨i, t, rfl, rfl⟩ | ⟨x, t, rfl, rfl⟩
    · rcases keyIs_shape hb with ⟨j, u, rfl, e⟩ | ⟨y, u, rfl, e⟩
      · injection e with e1 _; rw [e1]
      · exact nomatch e
    · rcases keyIs_shape hb with ⟨j, u, rfl, e⟩ | ⟨y, u, rfl, e⟩
      · exact nomatch e
      · injection e with e1 _; rw [e1]
  byValue := fun k v h => by
    rcases keyIs_shape h with ⟨i, t, rfl, rfl⟩ | ⟨x, t, rfl, rfl⟩ <;> rfl
  pyHash := fun hv h => by
    rcases keyIs_shape hv with ⟨i, t, rfl, rfl⟩ | ⟨x, t, rfl, rfl⟩
    · exact wpAny_pyHash_int h
    · exact wpAny_pyHash_str h
  eqBool := fun hu hv h => by
    rcases keyIs_shape hu with ⟨i, t, rfl, rfl⟩ | ⟨x, t, rfl, rfl⟩
    · rcases keyIs_shape hv with ⟨j, u, rfl, rfl⟩ | ⟨y, u, rfl, rfl⟩
      · rw [key_ll] at h; exact wpAny_eqBool_int h
      · rw [key_lr] at h; exact SeqAt.EqAt.int_str i t y u _ _ _ _ h
    · rcases keyIs_shape hv with ⟨j, u, rfl, rfl⟩ | ⟨y, u, rfl, rfl⟩
      · rw [key_rl] at h; exact SeqAt.EqAt.str_int x t j u _ _ _ _ h
      · rw [key_rr] at h; exact wpAny_eqBool_str h
  «strs» := fun k x t v h => by
    rcases keyIs_shape h with ⟨i, u, rfl, e⟩ | ⟨y, u, rfl, e⟩
    · exact nomatch e
    · injection e with e1 _
      subst e1
      cases v <;> rfl
theorem mixKind_int (prog : Program) (w : World) (i : Int) (t : Tok) : (mixKind prog w).is (.inl i) (.int i t) = true := keyIs_int i t
theorem mixKind_str (prog : Program) (w : World) (x : Str) (t : Tok) : (mixKind prog w).is (.inr x) (.str x t) = true := keyIs_str x t
end L2
namespace L2
open PySem PySem.Spec PyProof.Rows
inductive V where
  | non | bl (b : Bool) | int (i : Int) | str (x : Str) | byt (b : Array UInt8) | flt (b : UInt64) | ref (a : Addr) | ty (n : String)
  deriving DecidableEq
def RelV : V → Value → Prop
  | .non, u => u = Value.none
  | .bl b, u => u = Value.bool b
  | .int i, u => ∃ t, u = Value.int i t
  | .str x, u => ∃ t, u = Value.str x t
  | .byt b, u => ∃ t, u = Value.bytes b t
  | .flt b, u => ∃ t, u = Value.float b t
  | .ref a, u => u = Value.ref a
  | .ty n, u => u = Value.type n
abbrev Vals : List V → List Value → Prop := Paired RelV
theorem Vals.length {xs : List V} {us : List Value} (r : Vals xs us) : xs.length = us.length := Paired.length r
theorem Vals.get : ∀ {xs : List V} {us : List Value} {i : Nat} {x : V}, Vals xs us → xs[i]? = some x → ∃ u, us[i]? = some u ∧ RelV x u
  | _, _, _, _, .nil, e => by simp at e
  | _, _, 0, _, .cons r _, e => by simp at e; subst e; exact ⟨_, rfl, r⟩
  | _, _, i + 1, x, .cons _ t, e => by
    obtain ⟨u, h1, h2⟩ := Vals.get (i := i) (x := x) t (by simpa using e)
    exact ⟨u, by simpa using h1, h2⟩
theorem Vals.set {x : V} {u : Value} (r : RelV x u) : ∀ {xs : List V} {us : List Value} (i : Nat), Vals xs us → Vals (xs.set i x) (us.set i u)
  | _, _, _, .nil => .nil
  | _, _, 0, .cons _ t => .cons r t
  | _, _, i + 1, .cons q t => .cons q (Vals.set r i t)
theorem Vals.append : ∀ {xs ys : List V} {us ws : List Value}, Vals xs us → Vals ys ws → Vals (xs ++ ys) (us ++ ws)
  | _, _, _, _, .nil, s => s
  | _, _, _, _, .cons r t, s => .cons r (Vals.append t s)
theorem Vals.take : ∀ {xs : List V} {us : List Value} (n : Nat), Vals xs us → Vals (xs.take n) (us.take n)
  | _, _, 0, _ => .nil
  | _, _, _ + 1, .nil => .nil
  | _, _, n + 1, .cons r t => .cons r (Vals.take n t)
theorem Vals.drop : ∀ {xs : List V} {us : List Value} (n : Nat), Vals xs us → Vals (xs.drop n) (us.drop n)
  | _, _, 0, r => r
  | _, _, _ + 1, .nil => .nil
  | _, _, n + 1, .cons _ t => Vals.drop n t
theorem Vals.none_of : ∀ {xs : List V} {us : List Value} {i : Nat}, Vals xs us → xs[i]? = none → us[i]? = none := fun {xs us i} r e => by
  have h1 := r.length
  have h2 : xs.length ≤ i := List.getElem?_eq_none_iff.mp e
  exact List.getElem?_eq_none_iff.mpr (by omega)
def RelO : Option V → Option Value → Prop
  | some v, some u => RelV v u
  | none, none => True
  | _, _ => False
def KV {κ : Type} : List (κ × V) → List (κ × Value) → Prop := Paired fun (p : κ × V) (q : κ × Value) => p.1 = q.1 ∧ RelV p.2 q.2
def kV : Key → V
  | .inl i => .int i
  | .inr x => .str x
inductive HO where
  | lst (xs : List V)
  | tup (xs : List V)
  | dK (kvs : List (Key × V)) | dT (kvs : List (List Key × V))
  | set (S : Int → Bool) (n : Nat)
  | ins (C dx : Addr) (fs : List (Str × V))
  | own (x : Addr)
  | xd (fs : List (Str × V))
  | met (f x : Addr)
  | rng (lo hi : Int)
  | frz (o : Obj) (u : HO)
  | tbl (ps : Array Value)
  | ext (φ : Heap → Prop)
abbrev Hp := Addr → Option HO
def upd (H : Hp) (a : Addr) (o : HO) : Hp := fun b => if b = a then some o else H b
theorem upd_same {H : Hp} {a : Addr} {o : HO} : upd H a o a = some o := by unfold upd; rw [if_pos rfl]
theorem upd_ne {H : Hp} {a b : Addr} {o : HO} (h : b ≠ a) : upd H a o b = H b := by unfold upd; rw [if_neg h]
theorem upd_upd {H : Hp} {a : Addr} {o u : HO} : upd (upd H a o) a u = upd H a u := by
  funext b; unfold upd; split <;> rfl
theorem ne_of {H : Hp} {a b : Addr} {o u : HO} (h : H a = some o) (h' : H b = some u) (d : o ≠ u) : a ≠ b := by
  intro e; subst e; rw [h] at h'; exact d (Option.some.inj h')
theorem ne_of_none {H : Hp} {a b : Addr} {o : HO} (h : H a = some o) (h' : H b = none) : a ≠ b := by
  intro e; subst e; rw [h] at h'; cases h'
section
variable (P : Program) (w : World)
def ObjOk (H : Hp) (h : Heap) (a : Addr) : HO → Prop
  | .lst xs => xs.length ≤ sizeLine ∧ ∃ (its : List Value) (n : Nat), Vals xs its ∧ h.get? a = some { cls := .type "list", data := .seq its.toArray n }
  | .tup xs => xs.length ≤ sizeLine ∧ ∃ its : List Value, Vals xs its ∧ IsTup h a its.toArray
  | .dK kvs => kvs.length ≤ sizeLine ∧ (a == sysModules) = false ∧ ∃ vs, KV kvs vs ∧ h.DictOf (mixKind P w) a vs
  | .dT kvs => kvs.length ≤ sizeLine ∧ (a == sysModules) = false ∧ ∃ xs : List (List Key × Addr × Value),
      Paired (fun (p : List Key × V) (q : List Key × Addr × Value) => p.1 = q.1 ∧ H q.2.1 = some (.tup (p.1.map kV)) ∧ RelV p.2 q.2.2) kvs xs ∧
      ∃ o es ep, h.get? a = some o ∧ o.ExactDict ∧ o.data = .dict es ep ∧ es.toList = xs.map (entryOfKey (tupleKind (mixKind P w))) ∧ (xs.map (·.1)).Nodup
  | .set S n => h.SetOf (intKind P w) a S n
  | .ins C dx fs => H dx = some (.own a) ∧ fs.length ≤ 1000 ∧ dx ≠ a ∧ h.get? a = some (PySem.W.instObj C dx) ∧
      ∃ mA, h.Ns1 dx mA ∧ (∀ f, RelO (fs.lookup f) (mA f)) ∧ PySem.Within mA (fs.map (·.1))
  | .own _ => ∃ o, h.get? a = some o
  | .xd fs => ∃ mA, h.Ns1 a mA ∧ ∀ f, RelO (fs.lookup f) (mA f)
  | .rng lo hi => ∃ t u v, h.get? a = some { cls := .type "range", data := .fields #[.int lo t, .int hi u, .int 1 v] }
  | .frz o u => h.get? a = some o ∧ ObjOk H h a u
  | .tbl ps => h.get? a = some { cls := .none, data := .fields ps }
  | .met f x => h.get? a = some (PySem.W.methodObj (.ref f) (.ref x))
  | .ext φ => φ h ∧ (∃ o, h.get? a = some o) ∧ ∀ h1 h2 : Heap, φ h1 → (∀ o, h1.get? a = some o → h2.get? a = some o) → φ h2
def HOk (H : Hp) (h : Heap) : Prop := ∀ a o, H a = some o → ObjOk P w H h a o
end
section
variable {P : Program} {w : World} {H H' : Hp} {h h' : Heap} {a : Addr} {o : HO}
theorem ObjOk.lt (x : ObjOk P w H h a o) : a < h.objs.size := by
  cases o with
  | lst xs => obtain ⟨_, _, _, _, e⟩ := x; exact Heap.lt_size e
  | tup xs => obtain ⟨_, _, _, p⟩ := x; exact p.lt
  | dK kvs => obtain ⟨_, _, _, _, o, _, _, e, _⟩ := x; exact Heap.lt_size e
  | dT kvs => obtain ⟨_, _, _, _, o, _, _, e, _⟩ := x; exact Heap.lt_size e
  | set S n => obtain ⟨o, _, _, _, e, _⟩ := x; exact Heap.lt_size e
  | ins C dx fs => obtain ⟨_, _, _, e, _⟩ := x; exact Heap.lt_size e
  | own y => obtain ⟨_, e⟩ := x; exact Heap.lt_size e
  | xd fs => obtain ⟨_, ⟨_, _, _, e, _⟩, _⟩ := x; exact Heap.lt_size e
  | rng lo hi => obtain ⟨_, _, _, e⟩ := x; exact Heap.lt_size e
  | frz ob u => obtain ⟨e, _⟩ := x; exact Heap.lt_size e
  | tbl ps => exact Heap.lt_size (show h.get? a = some _ from x)
  | met f y => exact Heap.lt_size (show h.get? a = some _ from x)
  | ext φ => obtain ⟨_, ⟨_, e⟩, _⟩ := x; exact Heap.lt_size e
theorem Paired.mapP {α β : Type} {F G : α → β → Prop} : ∀ {l₁ : List α} {l₂ : List β}, Paired F l₁ l₂ → (∀ a b, F a b → G a b) → Paired G l₁ l₂
  | _, _, .nil, _ => .nil
  | _, _, .cons r t, f => .cons (f _ _ r) (Paired.mapP t f)
theorem ObjOk.stay (x : ObjOk P w H h a o) (k : ∀ b u, (b = a ∨ H b = some (.own a)) → h.get? b = some u → h'.get? b = some u)
    (ho : ∀ b, H b = some (.own a) → H' b = some (.own a)) (ht : ∀ b xs, H b = some (.tup xs) → H' b = some (.tup xs)) : ObjOk P w H' h' a o := by
  induction o with
  | lst xs => obtain ⟨z, its, n, r, e⟩ := x; exact ⟨z, its, n, r, k _ _ (.inl rfl) e⟩
  | tup xs => obtain ⟨z, its, r, ob, e, c⟩ := x; exact ⟨z, its, r, ob, k _ _ (.inl rfl) e, c⟩
  | dK kvs => obtain ⟨z, y, vs, r, ob, es, ep, e, c⟩ := x; exact ⟨z, y, vs, r, ob, es, ep, k _ _ (.inl rfl) e, c⟩
  | dT kvs =>
    obtain ⟨z, y, xs, r, ob, es, ep, e, c⟩ := x
    exact ⟨z, y, xs, Paired.mapP r fun p q z => ⟨z.1, ht _ _ z.2.1, z.2.2⟩, ob, es, ep, k _ _ (.inl rfl) e, c⟩
  | set S n => obtain ⟨ob, es, ep, t, e, c⟩ := x; exact ⟨ob, es, ep, t, k _ _ (.inl rfl) e, c⟩
  | ins C dx fs =>
    obtain ⟨d, z, ne, e, mA, ⟨od, es, ep, e2, c⟩, r⟩ := x
    exact ⟨ho _ d, z, ne, k _ _ (.inl rfl) e, mA, ⟨od, es, ep, k _ _ (.inr d) e2, c⟩, r⟩
  | own y => obtain ⟨ob, e⟩ := x; exact ⟨ob, k _ _ (.inl rfl) e⟩
  | xd fs => obtain ⟨mA, ⟨od, es, ep, e, c⟩, r⟩ := x; exact ⟨mA, ⟨od, es, ep, k _ _ (.inl rfl) e, c⟩, r⟩
  | rng lo hi => obtain ⟨t, u, v, e⟩ := x; exact ⟨t, u, v, k _ _ (.inl rfl) e⟩
  | frz ob u ih => obtain ⟨e, q⟩ := x; exact ⟨k _ _ (.inl rfl) e, ih q⟩
  | tbl ps =>
    have e : h.get? a = some { cls := .none, data := .fields ps } := x
    show h'.get? a = some { cls := .none, data := .fields ps }
    exact k a _ (.inl rfl) e
  | met f y =>
    have e : h.get? a = some (PySem.W.methodObj (.ref f) (.ref y)) := x
    show h'.get? a = some (PySem.W.methodObj (.ref f) (.ref y))
    exact k a _ (.inl rfl) e
  | ext φ => obtain ⟨p, ⟨o, e⟩, st⟩ := x; exact ⟨st _ _ p fun o q => k _ _ (.inl rfl) q, ⟨o, k _ _ (.inl rfl) e⟩, st⟩
theorem HOk.lt (x : HOk P w H h) (e : H a = some o) : a < h.objs.size := (x a o e).lt
theorem HOk.fresh (x : HOk P w H h) (e : h.objs.size ≤ a) : H a = none := by
  cases q : H a with
  | none => rfl
  | some u => exact absurd (Nat.lt_of_lt_of_le (x.lt q) e) (Nat.lt_irrefl _)
theorem HOk.kept (x : HOk P w H h) (k : ∀ b u, h.get? b = some u → h'.get? b = some u) : HOk P w H h' := fun a o e =>
  (x a o e).stay (fun b u _ q => k b u q) (fun _ q => q) fun _ _ q => q
theorem HOk.laid (x : HOk P w H h) (k : ∀ b u, h.get? b = some u → h'.get? b = some u) (hp : h.objs.size ≤ a) (new : ObjOk P w (upd H a o) h' a o) : HOk P w (upd H a o) h' := fun b u e => by
  have hn := x.fresh hp
  by_cases hb : b = a
  · subst hb; rw [upd_same] at e; cases e; exact new
  · rw [upd_ne hb] at e
    exact (x b u e).stay (fun c v _ q => k c v q) (fun c q => by rw [upd_ne (ne_of_none q hn)]; exact q) fun c xs q => by rw [upd_ne (ne_of_none q hn)]; exact q
end
def Rd (H : Hp) (a : Addr) (u : HO) : Prop := H a = some u ∨ ∃ o, H a = some (.frz o u)
theorem Rd.of {H : Hp} {a : Addr} {u : HO} (h : H a = some u) : Rd H a u := .inl h
theorem Rd.ok {P : Program} {w : World} {H : Hp} {h : Heap} {a : Addr} {u : HO} (r : Rd H a u) (x : HOk P w H h) : ObjOk P w H h a u := by
  rcases r with r | ⟨o, r⟩
  · exact x a u r
  · obtain ⟨_, q⟩ := x a _ r
    exact q
def Mut : Option HO → Prop
  | some (.lst _) => True
  | some (.dK _) => True
  | some (.dT _) => True
  | some (.set _ _) => True
  | some (.ins _ _ _) => True
  | some (.ext _) => True
  | _ => False
section
variable {P : Program} {w : World} {H : Hp} {h h' : Heap} {x e : Addr} {o' : HO}
theorem HOk.write (ok : HOk P w H h) (mu : Mut (H x)) (he : e = x ∨ H e = some (.own x)) (k : ∀ b u, b ≠ e → h.get? b = some u → h'.get? b = some u) (heo : ∃ u, h'.get? e = some u)
    (new : ObjOk P w (upd H x o') h' x o') : HOk P w (upd H x o') h' := fun b u q => by
  have nown : ∀ c y, H c = some (.own y) → c ≠ x := fun c y r z => by subst z; rw [r] at mu; exact mu
  have ntup : ∀ c xs, H c = some (.tup xs) → c ≠ x := fun c xs r z => by subst z; rw [r] at mu; exact mu
  by_cases hb : b = x
  · subst hb; rw [upd_same] at q; cases q; exact new
  · rw [upd_ne hb] at q
    by_cases hbe : b = e
    · have q' : H b = some (.own x) := by
        rcases he with z | z
        · exact absurd (hbe.trans z) hb
        · rw [hbe]; exact z
      rw [q] at q'; cases q'
      obtain ⟨v, hv⟩ := heo
      exact ⟨v, by rw [hbe]; exact hv⟩
    · refine (ok b u q).stay (fun c v hc r => k c v ?_ r) (fun c r => by rw [upd_ne (nown c b r)]; exact r) fun c xs r => by rw [upd_ne (ntup c xs r)]; exact r
      rcases hc with rfl | hc
      · exact hbe
      · rintro rfl
        rcases he with z | z
        · exact nown c b hc z
        · rw [hc] at z; cases z; exact hb rfl
end
structure Un (fs ex : List Addr) (H H' : Hp) (h h' : Heap) : Prop where
  keep : ∀ b o, h.get? b = some o → H b = none → b ∉ fs → b ∉ ex → h'.get? b = some o
  slot : ∀ b o, h.get? b = some o → H b = none → b ∈ fs → b ∉ ex → ∃ sl, h'.get? b = some { o with slots := sl }
  free : ∀ b o, h.get? b = some o → H b = none → b ∉ ex → H' b = none
  there : ∀ b o, h.get? b = some o → b ∉ ex → ∃ o', h'.get? b = some o'
  tups : ∀ b xs, H b = some (.tup xs) → H' b = some (.tup xs)
  frzs : ∀ b o u, H b = some (.frz o u) → H' b = some (.frz o u)
  tbls : ∀ b ps, H b = some (.tbl ps) → ∃ more, H' b = some (.tbl (ps ++ more))
section
variable {fs fs' ex ex' : List Addr} {H H1 H2 : Hp} {h h1 h2 h' : Heap} {a x e : Addr} {o : HO}
theorem Un.any (u : Un fs ex H H1 h h1) {b : Addr} {ob : Obj} (q : h.get? b = some ob) (n : H b = none) (hx : b ∉ ex) : ∃ sl, h1.get? b = some { ob with slots := sl } := by
  by_cases hb : b ∈ fs
  · exact u.slot b ob q n hb hx
  · exact ⟨ob.slots, u.keep b ob q n hb hx⟩
theorem Un.trans (a : Un fs ex H H1 h h1) (b : Un fs ex H1 H2 h1 h2) : Un fs ex H H2 h h2 where
  keep := fun c ob q n hc hx => b.keep c ob (a.keep c ob q n hc hx) (a.free c ob q n hx) hc hx
  slot := fun c ob q n hc hx => by
    obtain ⟨sl, e1⟩ := a.slot c ob q n hc hx
    obtain ⟨sl', e2⟩ := b.slot c _ e1 (a.free c ob q n hx) hc hx
    exact ⟨sl', e2⟩
  free := fun c ob q n hx => by
    obtain ⟨o', e1⟩ := a.there c ob q hx
    exact b.free c o' e1 (a.free c ob q n hx) hx
  there := fun c ob q hx => by
    obtain ⟨o', e1⟩ := a.there c ob q hx
    exact b.there c o' e1 hx
  tups := fun c xs q => b.tups c xs (a.tups c xs q)
  frzs := fun c ob xs q => b.frzs c ob xs (a.frzs c ob xs q)
  tbls := fun c ps q => by
    obtain ⟨m1, e1⟩ := a.tbls c ps q
    obtain ⟨m2, e2⟩ := b.tbls c _ e1
    exact ⟨m1 ++ m2, by rw [e2, Array.append_assoc]⟩
theorem Un.kept (k : ∀ b u, h.get? b = some u → h'.get? b = some u) : Un fs ex H H h h' :=
  ⟨fun b ob q _ _ _ => k b ob q, fun b ob q _ _ _ => ⟨ob.slots, k b ob q⟩, fun _ _ _ n _ => n, fun b ob q _ => ⟨ob, k b ob q⟩, fun _ _ q => q, fun _ _ _ q => q, fun _ ps q => ⟨#[], by rw [q]; simp⟩⟩
theorem Un.refl : Un fs ex H H h h := Un.kept fun _ _ q => q
theorem Un.laid (k : ∀ b u, h.get? b = some u → h'.get? b = some u) (hp : h.objs.size ≤ a) (hn : H a = none) : Un fs ex H (upd H a o) h h' where
  keep := fun b u q _ _ _ => k b u q
  slot := fun b u q _ _ _ => ⟨u.slots, k b u q⟩
  free := fun b u q n _ => by rw [upd_ne (Nat.ne_of_lt (Nat.lt_of_lt_of_le (Heap.lt_size q) hp))]; exact n
  there := fun b u q _ => ⟨u, k b u q⟩
  tups := fun b xs q => by rw [upd_ne (ne_of_none q hn)]; exact q
  frzs := fun b u xs q => by rw [upd_ne (ne_of_none q hn)]; exact q
  tbls := fun b ps q => ⟨#[], by rw [upd_ne (ne_of_none q hn), q]; simp⟩
theorem Un.write (mu : Mut (H x)) (he : e = x ∨ H e = some (.own x)) (k : ∀ b u, b ≠ e → h.get? b = some u → h'.get? b = some u) (heo : ∃ u, h'.get? e = some u) : Un fs ex H (upd H x o) h h' := by
  have hx : ∀ b, H b = none → b ≠ x := fun b n z => by subst z; rw [n] at mu; exact mu
  have hb : ∀ b, H b = none → b ≠ e := fun b n z => by
    subst z
    rcases he with r | r
    · exact hx b n r
    · rw [n] at r; cases r
  have hm : ∀ b u, H b = some u → ¬ Mut (some u) → b ≠ x := fun b u q nm z => by subst z; rw [q] at mu; exact nm mu
  refine ⟨fun b u q n _ _ => k b u (hb b n) q, fun b u q n _ _ => ⟨u.slots, k b u (hb b n) q⟩, fun b u q n _ => by rw [upd_ne (hx b n)]; exact n, fun b u q _ => ?_,
    fun b xs q => by rw [upd_ne (hm b _ q fun z => z)]; exact q, fun b u xs q => by rw [upd_ne (hm b _ q fun z => z)]; exact q, fun b ps q => ⟨#[], by rw [upd_ne (hm b _ q fun z => z), q]; simp⟩⟩
  by_cases hbe : b = e
  · subst hbe; exact heo
  · exact ⟨u, k b u hbe q⟩
theorem Un.mono (u : Un fs ex H H1 h h1) (hs : ∀ b ∈ fs, b ∈ fs') (hx : ∀ b ∈ ex, b ∈ ex') : Un fs' ex' H H1 h h1 :=
  ⟨fun b ob q n hb he => u.keep b ob q n (fun z => hb (hs b z)) fun z => he (hx b z), fun _ _ q n _ he => u.any q n fun z => he (hx _ z), fun b ob q n he => u.free b ob q n fun z => he (hx b z), fun b ob q he => u.there b ob q fun z => he (hx b z), u.tups, u.frzs, u.tbls⟩
end
def trk (h : Heap) (H : Hp) : List Addr := (List.range h.objs.size).filter fun a => (H a).isSome
def hidT (h : Heap) (H : Hp) : Heap := PySem.W.hideAll h (trk h H)
theorem hidT_size (h : Heap) (H : Hp) : (hidT h H).objs.size = h.objs.size := PySem.W.hideAll_size _ _
theorem hidT_get {h : Heap} {H : Hp} {b : Addr} {o : Obj} (e : h.get? b = some o) (n : H b = none) : (hidT h H).get? b = some o :=
  PySem.W.hideAll_get _ e fun hm => by
    have q : (H b).isSome = true := (List.mem_filter.mp hm).2
    rw [n] at q; simp at q
theorem of_hidT {h : Heap} {H : Hp} {b : Addr} {o : Obj} (e : (hidT h H).get? b = some o) : h.get? b = some o ∧ H b = none := by
  have e' : h.get? b = some o := PySem.W.of_hideAll (trk h H) e
  refine ⟨e', ?_⟩
  cases q : H b with
  | none => rfl
  | some x =>
    have hm : b ∈ trk h H := List.mem_filter.mpr ⟨List.mem_range.mpr (Heap.lt_size e'), by simp [q]⟩
    have z : (hidT h H).get? b = none := PySem.W.hideAll_none (trk h H) hm
    rw [z] at e; cases e
def allNews (g h : Heap) (L : Addr) : List (Addr × Obj) := (List.range h.objs.size).filterMap fun a => if a = L ∨ (g.get? a).isSome = true then none else (h.get? a).map fun o => (a, o)
def rest (g h : Heap) (L d : Addr) : List (Addr × Obj) := (allNews g h L).filter fun p => decide (p.1 ≠ d)
end L2
namespace L2
open PySem PySem.Spec PyProof.Rows
structure Mod (K : PySem.W.Frag) (mg : Str → Option Value) (base : Heap) : Prop where
  kin : K.In base
  glob : base.Ns mainGlobals mg
  blt : ∃ mb, base.Ns builtinsNs mb ∧ ∀ x : Str, x ≠ "__name__" → mb x = bootBuiltins x
  nolimit : base.NoLimit
structure Cx where
  prog : Program
  w : World
  K : PySem.W.Frag
  mg : Str → Option Value
  base : Heap
  A : Around
  N : List Str
  s₀ : Shared
  H₀ : Hp
  env : Env
  outer : List Env
  stack : List Env
  ex : List Addr
  fn : Str → Bool
  calm : Bool
  pn : List (Addr × Obj)
  xe : Value → Shared → Prop
def frs (l : List Env) : List Addr := l.filterMap (·.frame)
abbrev Cx.fs (X : Cx) : List Addr := frs X.outer
def Vis (sc : Scope) (x : Str) : Prop := sc.names.lookup x = some .local ∨ sc.names.lookup x = some .cell ∨ sc.names.lookup x = some .free
def Loc (sc : Scope) (x : Str) : Prop := sc.names.lookup x = some .local ∨ sc.names.lookup x = some .cell
def Look (env : Env) (h : Heap) (m : Str → Option Value) (x : Str) (u : Value) : Prop :=
  (env.kindOf x = some .local ∧ m x = some u) ∨ ((env.kindOf x = some .cell ∨ env.kindOf x = some .free) ∧ ∃ c, env.cells.lookup x = some c ∧ h.IsCell c (some u))
structure Cx.Ok (X : Cx) : Prop where
  mod : Mod X.K X.mg X.base
  kind : X.env.scope.kind = .function
  glob : X.env.globals = mainGlobals
  blt : X.env.builtins = builtinsNs
  above : X.s₀.heap.objs.size ≤ X.env.locals
  inj : ∀ x y c, X.env.cells.lookup x = some c → X.env.cells.lookup y = some c → x = y
  has : ∀ x, (X.env.kindOf x = some .cell ∨ X.env.kindOf x = some .free) → ∃ c, X.env.cells.lookup x = some c
  cab : ∀ x c, X.fn x = true → X.env.cells.lookup x = some c → X.s₀.heap.objs.size ≤ c
  hd : X.calm = true → X.A.handled = none
  frames : X.A.frames = some X.stack
  stk : X.stack = X.outer ∨ (X.stack = X.env :: X.outer ∧ X.env.frame = some X.env.locals)
  exf : ∀ b ∈ X.ex, b ≠ X.env.locals ∧ ∀ x c, X.env.cells.lookup x = some c → c ≠ b
  bs : ∀ b o, X.base.get? b = some o → X.s₀.heap.get? b = some o ∧ X.H₀ b = none
  bsz : X.base.objs.size ≤ X.s₀.heap.objs.size
  noex : ∀ b o, X.base.get? b = some o → b ∉ X.ex
  exfs : ∀ b ∈ X.ex, b ∉ X.fs
  funs : X.s₀.heap.FunFrames X.base X.outer
  frf : ∀ b ∈ X.fs, X.H₀ b = none
structure Inv (X : Cx) (pins : List (Addr × Obj)) (σ : List (Option V)) (H : Hp) (s : Shared) : Prop where
  ok : X.Ok
  os : s.os = X.s₀.os
  bare : AllBare s.gens
  base : Un X.fs X.ex X.H₀ H X.s₀.heap s.heap
  loc : ∃ m, s.heap.Ns X.env.locals m ∧ ∀ (i : Nat) (x : Str) (v : V), X.N[i]? = some x → σ[i]? = some (some v) → Vis X.env.scope x → ∃ u, RelV v u ∧ Look X.env s.heap m x u
  cell : ∀ x c, X.env.cells.lookup x = some c → ∃ v, s.heap.IsCell c v
  free : H X.env.locals = none
  freeC : ∀ x c, X.env.cells.lookup x = some c → H c = none
  pin : ∀ p ∈ X.pn ++ pins, s.heap.get? p.1 = some p.2 ∧ H p.1 = none ∧ p.1 ≠ X.env.locals ∧ p.1 ∉ X.fs ∧ ∀ v, p.2.data ≠ .cell v
  hok : HOk X.prog X.w H s.heap
  len : σ.length = X.N.length
section
variable {X : Cx} {pins : List (Addr × Obj)} {σ : List (Option V)} {H H' : Hp} {s : Shared} {h' : Heap}
theorem Cx.Ok.nofr (ok : X.Ok) {b : Addr} {o : Obj} (e : X.base.get? b = some o) : b ∉ X.fs := fun hb => by
  have := (ok.funs.mem hb).1
  rw [e] at this; cases this
theorem Inv.bs (I : Inv X pins σ H s) : ∀ b o, X.base.get? b = some o → s.heap.get? b = some o ∧ H b = none := fun b o e =>
  ⟨I.base.keep b o (I.ok.bs b o e).1 (I.ok.bs b o e).2 (I.ok.nofr e) (I.ok.noex b o e), I.base.free b o (I.ok.bs b o e).1 (I.ok.bs b o e).2 (I.ok.noex b o e)⟩
theorem Inv.bk (I : Inv X pins σ H s) : ∀ b o, X.base.get? b = some o → s.heap.get? b = some o := fun b o e => (I.bs b o e).1
theorem Inv.mod (I : Inv X pins σ H s) : Mod X.K X.mg X.base := I.ok.mod
theorem Inv.kIn (I : Inv X pins σ H s) : X.K.In s.heap := I.ok.mod.kin.keeps I.bk
theorem Inv.nolimit (I : Inv X pins σ H s) : s.heap.NoLimit := I.ok.mod.nolimit.keeps I.bk
theorem Inv.fr (I : Inv X pins σ H s) : ∃ m, Fr X.base X.env.locals s.heap m :=
  let ⟨m, hn, _⟩ := I.loc
  ⟨m, hn, I.bk, Nat.le_trans I.ok.bsz I.ok.above⟩
theorem Inv.lt (I : Inv X pins σ H s) : X.env.locals < s.heap.objs.size := let ⟨_, hn, _⟩ := I.loc; hn.lt
theorem Inv.sz (I : Inv X pins σ H s) : X.s₀.heap.objs.size ≤ s.heap.objs.size := Nat.le_trans I.ok.above (Nat.le_of_lt I.lt)
theorem Inv.nofs (I : Inv X pins σ H s) {a : Addr} (h : s.heap.objs.size ≤ a) : a ∉ X.fs := fun hb => by
  obtain ⟨_, o, ho, _⟩ := I.ok.funs.mem hb
  exact absurd (Nat.lt_of_lt_of_le (Heap.lt_size ho) (Nat.le_trans I.sz h)) (Nat.lt_irrefl _)
theorem Inv.cne (I : Inv X pins σ H s) : ∀ x c, X.env.cells.lookup x = some c → c ≠ X.env.locals := fun x c e z => by
  obtain ⟨v, o, ho, hd⟩ := I.cell x c e
  obtain ⟨m, ⟨o', es, ep, ho', hd', _⟩, _⟩ := I.loc
  rw [z, ho'] at ho; cases ho; rw [hd'] at hd; cases hd
theorem Inv.funs (I : Inv X pins σ H s) : s.heap.FunFrames X.base X.outer := by
  have all : ∀ (l : List Env), (∀ b ∈ frs l, b ∈ X.fs) → X.s₀.heap.FunFrames X.base l → s.heap.FunFrames X.base l := by
    intro l
    induction l with
    | nil => intro _ _; trivial
    | cons env r ih =>
      intro hs hl
      obtain ⟨hk, ⟨L, o, hf, hn, ho, hd⟩, hr⟩ := hl
      have hL : L ∈ X.fs := hs L (by unfold frs; rw [List.filterMap_cons, hf]; exact List.mem_cons_self)
      obtain ⟨sl, e⟩ := I.base.slot L o ho (I.ok.frf L hL) hL fun z => I.ok.exfs L z hL
      exact ⟨hk, ⟨L, _, hf, hn, e, hd⟩, ih (fun b hb => hs b (by unfold frs; rw [List.filterMap_cons, hf]; exact List.mem_cons_of_mem _ hb)) hr⟩
  exact all X.outer (fun _ hb => hb) I.ok.funs
theorem Inv.stack (I : Inv X pins σ H s) : s.heap.FunFrames X.base X.stack := by
  rcases I.ok.stk with e | ⟨e, hf⟩
  · rw [e]; exact I.funs
  · rw [e]
    obtain ⟨m, hn, _⟩ := I.loc
    refine .cons (by rw [I.ok.kind]; decide) hf hn ?_ I.funs
    exact Heap.get?_none_of_le (Nat.le_trans I.ok.bsz I.ok.above)
theorem Inv.stkSub (I : Inv X pins σ H s) : ∀ b ∈ frs X.stack, b ∈ X.env.locals :: X.fs := fun b hb => by
  rcases I.ok.stk with e | ⟨e, hf⟩
  · rw [e] at hb; exact List.mem_cons_of_mem _ hb
  · rw [e] at hb
    unfold frs at hb
    rw [List.filterMap_cons, hf] at hb
    exact hb
theorem Inv.stkFree (I : Inv X pins σ H s) : ∀ b ∈ frs X.stack, H b = none := fun b hb => by
  rcases List.mem_cons.mp (I.stkSub b hb) with e | hb
  · rw [e]; exact I.free
  · obtain ⟨_, o, ho, _⟩ := I.ok.funs.mem hb
    exact I.base.free b o ho (I.ok.frf b hb) fun z => I.ok.exfs b z hb
theorem Inv.step {g' : Array GenState} {t' : Nat} {d' : Drawn} {ch : List Addr} (I : Inv X pins σ H s)
    (hch : ∀ b ∈ ch, (b ∈ X.ex ∨ X.s₀.heap.objs.size ≤ b) ∧ b ≠ X.env.locals ∧ (∀ x c, X.env.cells.lookup x = some c → c ≠ b) ∧ ∀ p ∈ X.pn ++ pins, p.1 ≠ b)
    (keep : ∀ b o, b ≠ X.env.locals → b ∉ X.fs → b ∉ ch → s.heap.get? b = some o → H b = none → h'.get? b = some o)
    (slot : ∀ b o, b ≠ X.env.locals → b ∈ X.fs → b ∉ ch → s.heap.get? b = some o → H b = none → ∃ sl, h'.get? b = some { o with slots := sl }) (free : ∀ b o, b ∉ ch → s.heap.get? b = some o → H b = none → H' b = none)
    (there : ∀ b o, b ∉ ch → s.heap.get? b = some o → ∃ o', h'.get? b = some o')
    (tups : ∀ b xs, H b = some (.tup xs) → H' b = some (.tup xs)) (frzs : ∀ b o u, H b = some (.frz o u) → H' b = some (.frz o u)) (tbls : ∀ b ps, H b = some (.tbl ps) → ∃ more, H' b = some (.tbl (ps ++ more)))
    (ns : ∀ m, s.heap.Ns X.env.locals m → h'.Ns X.env.locals m) (hok : HOk X.prog X.w H' h') (hg : AllBare g') :
    Inv X pins σ H' { s with heap := h', gens := g', drawn := d', toks := t' } := by
  have neL : ∀ b o, X.s₀.heap.get? b = some o → b ≠ X.env.locals := fun b o e => Nat.ne_of_lt (Nat.lt_of_lt_of_le (Heap.lt_size e) I.ok.above)
  have neC : ∀ b o, X.s₀.heap.get? b = some o → b ∉ X.ex → b ∉ ch := fun b o e hx hb => by
    rcases (hch b hb).1 with z | z
    · exact hx z
    · exact absurd (Nat.lt_of_lt_of_le (Heap.lt_size e) z) (Nat.lt_irrefl _)
  have cellK : ∀ x c, X.env.cells.lookup x = some c → ∀ v, s.heap.IsCell c v → h'.IsCell c v := fun x c e v ⟨o, ho, hd⟩ => by
    have nch : c ∉ ch := fun z => (hch c z).2.2.1 x c e rfl
    by_cases hc : c ∈ X.fs
    · obtain ⟨sl, q⟩ := slot c o (I.cne x c e) hc nch ho (I.freeC x c e)
      exact ⟨_, q, hd⟩
    · exact ⟨o, keep c o (I.cne x c e) hc nch ho (I.freeC x c e), hd⟩
  refine ⟨I.ok, I.os, hg, ⟨fun b o e n hb hx => ?_, fun b o e n hb hx => ?_, fun b o e n hx => ?_, fun b o e hx => ?_, fun b xs e => tups b xs (I.base.tups b xs e), fun b o xs e => frzs b o xs (I.base.frzs b o xs e), fun b ps e => ?_⟩, ?_, fun x c e => ?_, ?_, fun x c e => ?_, fun p hp => ?_, hok, I.len⟩
  · exact keep b o (neL b o e) hb (neC b o e hx) (I.base.keep b o e n hb hx) (I.base.free b o e n hx)
  · obtain ⟨sl, e1⟩ := I.base.slot b o e n hb hx
    obtain ⟨sl', e2⟩ := slot b _ (neL b o e) hb (neC b o e hx) e1 (I.base.free b o e n hx)
    exact ⟨sl', e2⟩
  · obtain ⟨o', e1⟩ := I.base.there b o e hx
    exact free b o' (neC b o e hx) e1 (I.base.free b o e n hx)
  · obtain ⟨o', e1⟩ := I.base.there b o e hx
    exact there b o' (neC b o e hx) e1
  · obtain ⟨m1, e1⟩ := I.base.tbls b ps e
    obtain ⟨m2, e2⟩ := tbls b _ e1
    exact ⟨m1 ++ m2, by rw [e2, Array.append_assoc]⟩
  · obtain ⟨m, hn, hl⟩ := I.loc
    refine ⟨m, ns m hn, fun i x v e1 e2 e3 => ?_⟩
    obtain ⟨u, r, l⟩ := hl i x v e1 e2 e3
    refine ⟨u, r, ?_⟩
    rcases l with l | ⟨k, c, e, z⟩
    · exact .inl l
    · exact .inr ⟨k, c, e, cellK x c e _ z⟩
  · obtain ⟨v, z⟩ := I.cell x c e
    exact ⟨v, cellK x c e v z⟩
  · obtain ⟨m, ⟨o, _, _, ho, _⟩, _⟩ := I.loc
    exact free _ o (fun z => (hch _ z).2.1 rfl) ho I.free
  · obtain ⟨v, o, ho, hd⟩ := I.cell x c e
    exact free c o (fun z => (hch c z).2.2.1 x c e rfl) ho (I.freeC x c e)
  · obtain ⟨e, n, ne, nf, d⟩ := I.pin p hp
    have nch : p.1 ∉ ch := fun z => (hch p.1 z).2.2.2 p hp rfl
    exact ⟨keep p.1 p.2 ne nf nch e n, free p.1 p.2 nch e n, ne, nf, d⟩
theorem Inv.un {t' : Nat} (I : Inv X pins σ H s) (u : Un X.fs [] H H' s.heap h') (hok : HOk X.prog X.w H' h') : Inv X pins σ H' { s with heap := h', toks := t' } := by
  obtain ⟨m, ⟨o, es, ep, ho, r⟩, _⟩ := id I.loc
  obtain ⟨sl, hL⟩ := u.any ho I.free (by simp)
  exact I.step (g' := s.gens) (d' := s.drawn) (ch := []) (fun _ z => nomatch z) (fun b o _ hb _ e n => u.keep b o e n hb (by simp)) (fun b o _ hb _ e n => u.slot b o e n hb (by simp)) (fun b o _ e n => u.free b o e n (by simp)) (fun b o _ e => u.there b o e (by simp)) u.tups u.frzs u.tbls (fun m' hm => by
    obtain ⟨o', es', ep', ho', r'⟩ := hm
    rw [ho] at ho'; cases ho'
    exact ⟨_, es', ep', hL, r'⟩) hok I.bare
theorem Inv.call {g' : Array GenState} {t' : Nat} {d' : Drawn} {ch : List Addr} (I : Inv X pins σ H s) (u : Un (frs X.stack) ch H H' s.heap h') (hok : HOk X.prog X.w H' h') (hg : AllBare g')
    (hch : ∀ b ∈ ch, (b ∈ X.ex ∨ X.s₀.heap.objs.size ≤ b) ∧ b ≠ X.env.locals ∧ (∀ x c, X.env.cells.lookup x = some c → c ≠ b) ∧ ∀ p ∈ X.pn ++ pins, p.1 ≠ b) :
    Inv X pins σ H' { s with heap := h', gens := g', drawn := d', toks := t' } := by
  obtain ⟨m, ⟨o, es, ep, ho, r⟩, _⟩ := id I.loc
  obtain ⟨sl, hL⟩ := u.any ho I.free fun z => (hch _ z).2.1 rfl
  exact I.step (ch := ch) hch (fun b o hL hb hc e n => u.keep b o e n (fun z => (List.mem_cons.mp (I.stkSub b z)).elim hL hb) hc) (fun b o _ _ hc e n => u.any e n hc) (fun b o hc e n => u.free b o e n hc) (fun b o hc e => u.there b o e hc) u.tups u.frzs u.tbls (fun m' hm => by
    obtain ⟨o', es', ep', ho', r'⟩ := hm
    rw [ho] at ho'; cases ho'
    exact ⟨_, es', ep', hL, r'⟩) hok hg
theorem Inv.turned {t' : Nat} {it : Addr} (I : Inv X pins σ H s) (k : ∀ b o, b ≠ it → s.heap.get? b = some o → h'.get? b = some o) (hn : H it = none) (hL : it ≠ X.env.locals)
    (h1 : it ∈ X.ex ∨ X.s₀.heap.objs.size ≤ it) (h2 : ∀ x c, X.env.cells.lookup x = some c → c ≠ it) (h3 : ∀ p ∈ X.pn ++ pins, p.1 ≠ it) : Inv X pins σ H { s with heap := h', toks := t' } := by
  have nit : ∀ b u, H b = some u → b ≠ it := fun b u e z => by rw [z, hn] at e; cases e
  refine I.step (g' := s.gens) (d' := s.drawn) (ch := [it]) (fun b hb => ?_) (fun b o _ _ hc e _ => k b o (fun z => hc (by simp [z])) e) (fun b o _ _ hc e _ => ⟨o.slots, k b o (fun z => hc (by simp [z])) e⟩) (fun _ _ _ _ n => n)
    (fun b o hc e => ⟨o, k b o (fun z => hc (by simp [z])) e⟩) (fun _ _ e => e) (fun _ _ _ e => e) (fun b ps e => ⟨#[], by rw [e]; simp⟩) (fun m hm => ?_) (fun b u e => ?_) I.bare
  · have e : b = it := by simpa using hb
    subst e
    exact ⟨h1, hL, h2, h3⟩
  · obtain ⟨o, es, ep, ho, r⟩ := hm
    exact ⟨o, es, ep, k _ o (Ne.symm hL) ho, r⟩
  · refine (I.hok b u e).stay (fun c v hc q => k c v ?_ q) (fun _ q => q) fun _ _ q => q
    rcases hc with z | z
    · rw [z]; exact nit b u e
    · exact nit c _ z
theorem Inv.tok (I : Inv X pins σ H s) (t : Nat) : Inv X pins σ H { s with toks := t } := I.un (h' := s.heap) (t' := t) Un.refl I.hok
theorem Inv.kept {t' : Nat} (I : Inv X pins σ H s) (k : ∀ b u, s.heap.get? b = some u → h'.get? b = some u) : Inv X pins σ H { s with heap := h', toks := t' } := I.un (Un.kept k) (I.hok.kept k)
theorem Inv.laid {a : Addr} {o : HO} {t' : Nat} (I : Inv X pins σ H s) (k : ∀ b u, s.heap.get? b = some u → h'.get? b = some u) (hp : s.heap.objs.size ≤ a) (new : ObjOk X.prog X.w (upd H a o) h' a o) :
    Inv X pins σ (upd H a o) { s with heap := h', toks := t' } := I.un (Un.laid k hp (I.hok.fresh hp)) (I.hok.laid k hp new)
theorem Inv.write {x e : Addr} {o : HO} {t' : Nat} (I : Inv X pins σ H s) (mu : Mut (H x)) (he : e = x ∨ H e = some (.own x)) (k : ∀ b u, b ≠ e → s.heap.get? b = some u → h'.get? b = some u) (heo : ∃ u, h'.get? e = some u)
    (new : ObjOk X.prog X.w (upd H x o) h' x o) : Inv X pins σ (upd H x o) { s with heap := h', toks := t' } := I.un (Un.write mu he k heo) (I.hok.write mu he k heo new)
theorem Inv.pins_of {pins' : List (Addr × Obj)} (I : Inv X pins σ H s) (h : ∀ p ∈ pins', s.heap.get? p.1 = some p.2 ∧ H p.1 = none ∧ p.1 ≠ X.env.locals ∧ p.1 ∉ X.fs ∧ ∀ v, p.2.data ≠ .cell v) : Inv X pins' σ H s :=
  ⟨I.ok, I.os, I.bare, I.base, I.loc, I.cell, I.free, I.freeC, fun p hp => (List.mem_append.mp hp).elim (fun z => I.pin p (List.mem_append_left _ z)) (h p), I.hok, I.len⟩
theorem nodup_ix {N : List Str} (hN : N.Nodup) {i j : Nat} {x : Str} (a : N[i]? = some x) (b : N[j]? = some x) : i = j := by
  obtain ⟨h1, e1⟩ := List.getElem?_eq_some_iff.mp a
  obtain ⟨h2, e2⟩ := List.getElem?_eq_some_iff.mp b
  exact (List.getElem_inj hN).mp (e1.trans e2.symm)
theorem store_ok2 {M : Model} {A : Around} {E : Value → Shared → Prop} {i : Nat} {x : Str} {v : V} {u : Value} {Q : Unit → Shared → Prop} (I : Inv X pins σ H s) (hN : X.N.Nodup) (hi : X.N[i]? = some x) (hx : Loc X.env.scope x) (r : RelV v u)
    (h : ∀ s', Inv X pins (σ.set i (some v)) H s' → (∃ a, Heap.SameBut a s.heap s'.heap ∧ (a = X.env.locals ∨ X.env.cells.lookup x = some a)) → Q () s') (hf : X.fn x = true ∨ X.env.scope.names.lookup x = some .local := by first | exact .inl rfl | exact .inr rfl | assumption) : wpAny M A (storeName X.env x u) Q E s := by
  obtain ⟨m, hn, hl⟩ := id I.loc
  have hcls : (X.env.scope.kind == .class || (X.env.scope.kind == .module && X.env.locals != X.env.globals)) = false := by rw [I.ok.kind]; rfl
  have hiσ : i < σ.length := by rw [I.len]; exact (List.getElem?_eq_some_iff.mp hi).1
  have cne := I.cne
  have tracked : ∀ {a : Addr} {h' : Heap}, (∃ o, s.heap.get? a = some o ∧ H a = none) → Heap.SameBut a s.heap h' → HOk X.prog X.w H h' := fun {a h'} ha hs b ob e => by
    obtain ⟨_, _, hfree⟩ := ha
    refine (I.hok b ob e).stay (fun c w' hc q => (hs.2 c ?_).trans q) (fun _ q => q) fun _ _ q => q
    rintro rfl
    rcases hc with rfl | hc
    · rw [hfree] at e; cases e
    · rw [hfree] at hc; cases hc
  rcases hx with hk | hk
  · refine wpAny_storeName_local hk hn (fun h' hn' hs => ?_) hcls
    obtain ⟨oL, _, _, hoL, _⟩ := id hn
    refine h _ ⟨I.ok, I.os, I.bare, ⟨fun b o e n hb hx => ?_, fun b o e n hb hx => ?_, I.base.free, fun b o e hx => ?_, I.base.tups, I.base.frzs, I.base.tbls⟩, ⟨_, hn', fun j y v' e1 e2 e3 => ?_⟩, fun y c e => ?_, I.free, I.freeC, fun p hp => ?_, tracked ⟨oL, hoL, I.free⟩ hs, by simpa using I.len⟩ ⟨_, hs, .inl rfl⟩
    · exact (hs.2 b (Nat.ne_of_lt (Nat.lt_of_lt_of_le (Heap.lt_size e) I.ok.above))).trans (I.base.keep b o e n hb hx)
    · obtain ⟨sl, e1⟩ := I.base.slot b o e n hb hx
      exact ⟨sl, (hs.2 b (Nat.ne_of_lt (Nat.lt_of_lt_of_le (Heap.lt_size e) I.ok.above))).trans e1⟩
    · obtain ⟨o', e1⟩ := I.base.there b o e hx
      exact ⟨o', (hs.2 b (Nat.ne_of_lt (Nat.lt_of_lt_of_le (Heap.lt_size e) I.ok.above))).trans e1⟩
    · by_cases hj : j = i
      · subst hj
        rw [hi] at e1; cases e1
        rw [List.getElem?_set_self hiσ] at e2
        cases e2
        exact ⟨u, r, .inl ⟨hk, by simp⟩⟩
      · rw [List.getElem?_set_ne (Ne.symm hj)] at e2
        obtain ⟨u', r', q⟩ := hl j y v' e1 e2 e3
        refine ⟨u', r', ?_⟩
        rcases q with ⟨k, e⟩ | ⟨k, c, e, z⟩
        · refine .inl ⟨k, ?_⟩
          have : y ≠ x := fun e => hj (nodup_ix hN e1 (e ▸ hi))
          simp [this, e]
        · exact .inr ⟨k, c, e, z.sameBut hs (cne y c e)⟩
    · obtain ⟨w', z⟩ := I.cell y c e
      exact ⟨w', z.sameBut hs (cne y c e)⟩
    · obtain ⟨e, n, ne, nf, d⟩ := I.pin p hp
      exact ⟨(hs.2 p.1 ne).trans e, n, ne, nf, d⟩
  · have hfn : X.fn x = true := by
      rcases hf with z | z
      · exact z
      · rw [z] at hk; cases hk
    obtain ⟨c, hc⟩ := I.ok.has x (.inl hk)
    obtain ⟨w', z⟩ := I.cell x c hc
    refine wpAny_storeName_cell I.ok.kind hk hc z (fun h' hc' hs => ?_)
    obtain ⟨oc, hoc, hocd⟩ := id z
    refine h { s with heap := h' } ⟨I.ok, I.os, I.bare, ⟨fun b o e n hb hx => ?_, fun b o e n hb hx => ?_, I.base.free, fun b o e hx => ?_, I.base.tups, I.base.frzs, I.base.tbls⟩, ⟨m, hn.sameBut hs (Ne.symm (cne x c hc)), fun j y v' e1 e2 e3 => ?_⟩, fun y c' e => ?_, I.free, I.freeC, fun p hp => ?_, tracked ⟨oc, hoc, I.freeC x c hc⟩ hs, by simpa using I.len⟩ ⟨c, hs, .inr hc⟩
    · exact (hs.2 b (Nat.ne_of_lt (Nat.lt_of_lt_of_le (Heap.lt_size e) (I.ok.cab x c hfn hc)))).trans (I.base.keep b o e n hb hx)
    · obtain ⟨sl, e1⟩ := I.base.slot b o e n hb hx
      exact ⟨sl, (hs.2 b (Nat.ne_of_lt (Nat.lt_of_lt_of_le (Heap.lt_size e) (I.ok.cab x c hfn hc)))).trans e1⟩
    · obtain ⟨o', e1⟩ := I.base.there b o e hx
      exact ⟨o', (hs.2 b (Nat.ne_of_lt (Nat.lt_of_lt_of_le (Heap.lt_size e) (I.ok.cab x c hfn hc)))).trans e1⟩
    · by_cases hj : j = i
      · subst hj
        rw [hi] at e1; cases e1
        rw [List.getElem?_set_self hiσ] at e2
        cases e2
        exact ⟨u, r, .inr ⟨.inl hk, c, hc, hc'⟩⟩
      · rw [List.getElem?_set_ne (Ne.symm hj)] at e2
        obtain ⟨u', r', q⟩ := hl j y v' e1 e2 e3
        refine ⟨u', r', ?_⟩
        rcases q with q | ⟨k, c', e, z'⟩
        · exact .inl q
        · refine .inr ⟨k, c', e, z'.sameBut hs ?_⟩
          rintro rfl
          exact hj (nodup_ix hN e1 (I.ok.inj _ _ _ e hc ▸ hi))
    · by_cases hcc : c' = c
      · subst hcc; exact ⟨_, hc'⟩
      · obtain ⟨w2, z2⟩ := I.cell y c' e
        exact ⟨w2, z2.sameBut hs hcc⟩
    · obtain ⟨e, n, ne, nf, d⟩ := I.pin p hp
      refine ⟨(hs.2 p.1 ?_).trans e, n, ne, nf, d⟩
      intro q
      rw [q, hoc] at e
      have q' : oc = p.2 := Option.some.inj e
      exact d w' (by rw [← q']; exact hocd)
theorem store_ok {M : Model} {A : Around} {E : Value → Shared → Prop} {i : Nat} {x : Str} {v : V} {u : Value} {Q : Unit → Shared → Prop} (I : Inv X pins σ H s) (hN : X.N.Nodup) (hi : X.N[i]? = some x) (hx : Loc X.env.scope x) (r : RelV v u)
    (h : ∀ s', Inv X pins (σ.set i (some v)) H s' → Q () s') (hf : X.fn x = true ∨ X.env.scope.names.lookup x = some .local := by first | exact .inl rfl | exact .inr rfl | assumption) : wpAny M A (storeName X.env x u) Q E s :=
  store_ok2 I hN hi hx r (fun s' I' _ => h s' I') hf
theorem Inv.call' {s' : Shared} {ch : List Addr} (I : Inv X pins σ H s) (ho : s'.os = s.os) (u : Un (frs X.stack) ch H H' s.heap s'.heap) (hok : HOk X.prog X.w H' s'.heap) (hg : AllBare s'.gens)
    (hch : ∀ b ∈ ch, (b ∈ X.ex ∨ X.s₀.heap.objs.size ≤ b) ∧ b ≠ X.env.locals ∧ (∀ x c, X.env.cells.lookup x = some c → c ≠ b) ∧ ∀ p ∈ X.pn ++ pins, p.1 ≠ b) : Inv X pins σ H' s' := by
  obtain ⟨h', g', d', t', o'⟩ := s'
  have e : o' = s.os := ho
  subst e
  exact I.call (g' := g') (t' := t') (d' := d') u hok hg hch
end
abbrev XK := Value → Option Addr → Hp → Prop
abbrev St := List (Option V)
abbrev VK := V → Hp → Prop
abbrev TE := St → Hp → VK → Prop
abbrev TT := St → Hp → (Bool → Hp → Prop) → Prop
abbrev TA := St → Hp → (List V → Hp → Prop) → Prop
structure Ends where
  nx : St → Hp → Prop
  rt : VK
  bk : St → Hp → Prop := fun _ _ => False
  ct : St → Hp → Prop := fun _ _ => False
abbrev TS := Ends → St → Hp → Prop
def EP (X : Cx) (pins : List (Addr × Obj)) (σ : St) (Q : VK) (u : Value) (s' : Shared) : Prop := ∃ v H', Inv X pins σ H' s' ∧ RelV v u ∧ Q v H'
def TP (X : Cx) (pins : List (Addr × Obj)) (σ : St) (Q : Bool → Hp → Prop) (b : Bool) (s' : Shared) : Prop := ∃ H', Inv X pins σ H' s' ∧ Q b H'
def AP (X : Cx) (pins : List (Addr × Obj)) (σ : St) (Q : List V → Hp → Prop) (us : List Value) (s' : Shared) : Prop := ∃ vs H', Inv X pins σ H' s' ∧ Vals vs us ∧ Q vs H'
def SP (X : Cx) (pins : List (Addr × Obj)) (D : Ends) (f : Flow) (s' : Shared) : Prop :=
  match f with
  | .next => ∃ σ' H', Inv X pins σ' H' s' ∧ D.nx σ' H'
  | .brk => ∃ σ' H', Inv X pins σ' H' s' ∧ D.bk σ' H'
  | .cont => ∃ σ' H', Inv X pins σ' H' s' ∧ D.ct σ' H'
  | .ret u => ∃ v σ' H', Inv X pins σ' H' s' ∧ RelV v u ∧ D.rt v H'
def PE (X : Cx) (e : Expr) (t : TE) : Prop :=
  ∀ (pins : List (Addr × Obj)) (s : Shared) (σ : St) (H : Hp) (Q : VK), Inv X pins σ H s → t σ H Q → wpAny (model X.prog X.w) X.A (eval e X.env) (EP X pins σ Q) X.xe s
def PT (X : Cx) (e : Expr) (t : TT) : Prop :=
  ∀ (pins : List (Addr × Obj)) (s : Shared) (σ : St) (H : Hp) (Q : Bool → Hp → Prop), Inv X pins σ H s → t σ H Q → wpAny (model X.prog X.w) X.A (isTrue e X.env (eval e X.env)) (TP X pins σ Q) X.xe s
def PW (X : Cx) (e : Expr) (t : TT) : Prop :=
  ∀ (whole : Sem Value) (pins : List (Addr × Obj)) (s : Shared) (σ : St) (H : Hp) (Q : Bool → Hp → Prop), Inv X pins σ H s → t σ H Q → wpAny (model X.prog X.w) X.A (isTrue e X.env whole) (TP X pins σ Q) X.xe s
theorem PW.pt {X : Cx} {e : Expr} {t : TT} (h : PW X e t) : PT X e t := h _
def PA (X : Cx) (es : List Expr) (t : TA) : Prop :=
  ∀ (pos : Pos) (pins : List (Addr × Obj)) (s : Shared) (σ : St) (H : Hp) (Q : List V → Hp → Prop), Inv X pins σ H s → t σ H Q → wpAny (model X.prog X.w) X.A (spliced (backTo pos (starEach es X.env))) (AP X pins σ Q) X.xe s
def PS (X : Cx) (st : Stmt) (t : TS) : Prop :=
  ∀ (pins : List (Addr × Obj)) (s : Shared) (σ : St) (H : Hp) (D : Ends), Inv X pins σ H s → t D σ H → wpAny (model X.prog X.w) X.A (exec st X.env) (SP X pins D) X.xe s
def PSs (X : Cx) (st : List Stmt) (t : TS) : Prop :=
  ∀ (pins : List (Addr × Obj)) (s : Shared) (σ : St) (H : Hp) (D : Ends), Inv X pins σ H s → t D σ H → wpAny (model X.prog X.w) X.A (execs st X.env) (SP X pins D) X.xe s
theorem thn {α : Type} {t : Sem α} {Q Q' : α → Shared → Prop} {M : Model} {A : Around} {E : Value → Shared → Prop} {s : Shared} (h : wpAny M A t Q E s) (hQ : ∀ a s, Q a s → Q' a s) : wpAny M A t Q' E s := wpAny_mono h hQ fun _ _ x => x
end L2
namespace L2
open PySem PySem.Spec PyProof.Rows
section
variable {X : Cx}
def tVar (i : Nat) : TE := fun σ H Q => ∃ v, σ[i]? = some (some v) ∧ Q v H
def tC (v : V) : TE := fun _ H Q => Q v H
theorem pe_var {i : Nat} {x : Str} {pos : Pos} (hN : X.N[i]? = some x) (hv : Vis X.env.scope x) (hd : (x == ("__debug__" : Str)) = false := by decide) (hcd : (x == ("__classdict__" : Str)) = false := by decide) : PE X (.Name x pos) (tVar i) := by
  intro pins s σ H Q I h
  obtain ⟨v, e, h⟩ := h
  obtain ⟨m, hn, hl⟩ := I.loc
  obtain ⟨u, r, l⟩ := hl i x v hN e hv
  have fin : EP X pins σ Q u s := ⟨v, H, I, r, h⟩
  rcases l with ⟨hk, hm⟩ | ⟨hk, c, hc, hcell⟩
  · exact wpAny_Name (wpAny_loadName_local I.ok.kind hk hn hm fin) hd
  · rcases hk with hk | hk
    · exact wpAny_Name (wpAny_loadName_cell I.ok.kind hk hc hcell fin) hd
    · exact wpAny_Name (wpAny_loadName_free I.ok.kind hk hc hcell fin hcd) hd
theorem pe_int {i j pos} : PE X (.Constant (.int i) j pos) (tC (.int i)) := fun _ _ _ H _ I h => wpAny_Constant_int ⟨.int i, H, I.tok _, ⟨_, rfl⟩, h⟩
theorem pe_bl {b j pos} : PE X (.Constant (.bool b) j pos) (tC (.bl b)) := fun _ _ _ H _ I h => Constant_bool ⟨.bl b, H, I, rfl, h⟩
theorem pe_non {j pos} : PE X (.Constant .none j pos) (tC .non) := fun _ _ _ H _ I h => Constant_none ⟨.non, H, I, rfl, h⟩
theorem pe_str {x j pos} : PE X (.Constant (.str x) j pos) (tC (.str x)) := fun _ _ _ H _ I h => Calls.Constant_str ⟨.str x, H, I.tok _, ⟨_, rfl⟩, h⟩
def Gl (X : Cx) (x : Str) : Prop := X.env.kindOf x = some .globalImplicit
theorem ld_glob {E : Value → Shared → Prop} {pins : List (Addr × Obj)} {s : Shared} {σ : St} {H : Hp} {x : Str} {u : Value} {pos : Pos} {Q : Value → Shared → Prop} (I : Inv X pins σ H s) (hg : Gl X x) (hm : X.mg x = some u) (h : Q u s)
    (hd : (x == ("__debug__" : Str)) = false := by decide) : wpAny (model X.prog X.w) X.A (eval (.Name x pos) X.env) Q E s :=
  Calls.Name_function_global I.ok.kind hg (Calls.loadGlobal_global (by rw [I.ok.glob]; exact I.mod.glob.keeps I.bk) hm h) hd
theorem ld_blt {E : Value → Shared → Prop} {pins : List (Addr × Obj)} {s : Shared} {σ : St} {H : Hp} {x : Str} {u : Value} {pos : Pos} {Q : Value → Shared → Prop} (I : Inv X pins σ H s) (hg : Gl X x) (hm : X.mg x = none) (hv : bootBuiltins x = some u) (h : Q u s)
    (hn : x ≠ "__name__" := by decide) (hd : (x == ("__debug__" : Str)) = false := by decide) : wpAny (model X.prog X.w) X.A (eval (.Name x pos) X.env) Q E s := by
  obtain ⟨mb, h1, h2⟩ := I.mod.blt
  exact Calls.Name_function_global I.ok.kind hg (Calls.loadGlobal_builtin (by rw [I.ok.glob]; exact I.mod.glob.keeps I.bk) hm (by rw [I.ok.blt]; exact h1.keeps I.bk) ((h2 x hn).trans hv) h) hd
theorem pe_glob {x : Str} {v : V} {u : Value} {pos : Pos} (hg : Gl X x) (hm : X.mg x = some u) (r : RelV v u) (hd : (x == ("__debug__" : Str)) = false := by decide) : PE X (.Name x pos) (tC v) :=
  fun _ _ _ H _ I h => ld_glob I hg hm ⟨v, H, I, r, h⟩ hd
def t2I (ta tb : TE) (k : Int → Int → Hp → Prop) : St → Hp → Prop := fun σ H => ta σ H fun x H1 => tb σ H1 fun y H2 => ∃ i j, x = .int i ∧ y = .int j ∧ k i j H2
def tAdd (ta tb : TE) : TE := fun σ H Q => t2I ta tb (fun i j H2 => Q (.int (i + j)) H2) σ H
def tSub (ta tb : TE) : TE := fun σ H Q => t2I ta tb (fun i j H2 => Q (.int (i - j)) H2) σ H
def tMul (ta tb : TE) : TE := fun σ H Q => t2I ta tb (fun i j H2 => (-(2 ^ 64) < i ∧ i < 2 ^ 64) ∧ Q (.int (i * j)) H2) σ H
variable {a b : Expr} {ta tb : TE} {pos : Pos}
def PC (X : Cx) (op : CmpOp) (a b : Expr) (t : TE) : Prop :=
  ∀ (pins : List (Addr × Obj)) (s : Shared) (σ : St) (H : Hp) (Q : VK), Inv X pins σ H s → t σ H Q →
    wpAny (model X.prog X.w) X.A (eval a X.env) (fun v s₁ => wpAny (model X.prog X.w) X.A (eval b X.env) (fun u s₂ => wpAny (model X.prog X.w) X.A (compareOp op v u) (EP X pins σ Q) X.xe s₂) X.xe s₁) X.xe s
theorem nobehind (b : Expr) {op : CmpOp} (h : op ≠ .In) (h2 : op ≠ .NotIn) : behindInMarks op b = false := by
  have e1 : (op == CmpOp.In) = false := by cases op <;> first | rfl | exact absurd rfl h
  have e2 : (op == CmpOp.NotIn) = false := by cases op <;> first | rfl | exact absurd rfl h2
  cases b <;> simp [behindInMarks, e1, e2]
def tCmp (p : Int → Int → Bool) (ta tb : TE) : TE := fun σ H Q => t2I ta tb (fun i j H2 => Q (.bl (p i j)) H2) σ H
abbrev tLt : TE → TE → TE := tCmp fun i j => decide (i < j)
abbrev tLe : TE → TE → TE := tCmp fun i j => decide (i ≤ j)
abbrev tGt : TE → TE → TE := tCmp fun i j => decide (j < i)
abbrev tGe : TE → TE → TE := tCmp fun i j => decide (j ≤ i)
abbrev tEqI : TE → TE → TE := tCmp fun i j => decide (i = j)
abbrev tNeI : TE → TE → TE := tCmp fun i j => !decide (i = j)
def tIsN (ta : TE) : TE := fun σ H Q => ta σ H fun x H1 => Q (.bl (decide (x = .non))) H1
def tNotN (ta : TE) : TE := fun σ H Q => ta σ H fun x H1 => Q (.bl (!decide (x = .non))) H1
def tB (t : TE) : TT := fun σ H Q => t σ H fun x H1 => ∃ c, x = .bl c ∧ Q c H1
theorem pt_cmp {op : CmpOp} {t : TE} (h : PC X op a b t) (h1 : behindInMarks op b = false := by first | exact nobehind _ (by decide) (by decide) | rfl) : PT X (.Compare a [op] [b] pos) (tB t) := by
  intro pins s σ H Q I hw
  refine wpAny_isTrue_Compare1 (thn (h pins s σ H _ I hw) fun v s1 h1 => thn h1 fun u s2 h2 => thn h2 fun c s3 ⟨x, H1, I1, r1, q1⟩ => ?_) h1
  obtain ⟨d, rfl, q⟩ := q1
  cases r1
  exact wpAny_truthy_bool ⟨H1, I1, q⟩
variable {tA tB' : TT} {rest : List Expr}
def tAnd (t u : TT) : TT := fun σ H Q => t σ H fun c H1 => if c = true then u σ H1 Q else Q false H1
def tOr (t u : TT) : TT := fun σ H Q => t σ H fun c H1 => if c = true then Q true H1 else u σ H1 Q
def tNot (t : TT) : TT := fun σ H Q => t σ H fun c H1 => Q (!c) H1
theorem pw_or1 (ha : PT X a tA) : PW X (.BoolOp .Or [a] pos) tA := by
  intro wh pins s σ H Q I h
  refine isTrue_or (thn (ha pins s σ H Q I h) fun c s1 e => ?_)
  cases c with
  | false => exact isTrue_or_nil e
  | true => exact e
theorem pw_or (ha : PT X a tA) (hb : PW X (.BoolOp .Or (b :: rest) pos) tB') : PW X (.BoolOp .Or (a :: b :: rest) pos) (tOr tA tB') := by
  intro wh pins s σ H Q I h
  refine isTrue_or (thn (ha pins s σ H _ I h) fun c s1 ⟨H1, I1, q1⟩ => ?_)
  cases c with
  | true => exact ⟨H1, I1, q1⟩
  | false => exact hb wh pins s1 σ H1 Q I1 q1
def tAndV (ta tb : TE) : TE := fun σ H Q => ta σ H fun x H1 => ∃ c, x = .bl c ∧ if c = true then tb σ H1 Q else Q (.bl false) H1
def tOrV (ta tb : TE) : TE := fun σ H Q => ta σ H fun x H1 => ∃ c, x = .bl c ∧ if c = true then Q (.bl true) H1 else tb σ H1 Q
def tNotV (ta : TE) : TE := fun σ H Q => ta σ H fun x H1 => ∃ c, x = .bl c ∧ Q (.bl (!c)) H1
def tIf (t : TT) (ta tb : TE) : TE := fun σ H Q => t σ H fun c H1 => if c = true then ta σ H1 Q else tb σ H1 Q
theorem pe_ifExp {c : Expr} (hc : PT X c tA) (ha : PE X a ta) (hb : PE X b tb) : PE X (.IfExp c a b pos) (tIf tA ta tb) := by
  intro pins s σ H Q I h
  refine wpAny_IfExp (thn (hc pins s σ H _ I h) fun d s1 ⟨H1, I1, q1⟩ => ?_)
  cases d with
  | true => exact ha pins s1 σ H1 Q I1 q1
  | false => exact hb pins s1 σ H1 Q I1 q1
end
end L2
namespace L2
open PySem PySem.Spec PyProof.Rows
def SqL (K : PySem.W.Frag) (H : Hp) (a : Addr) (xs : List V) : Prop :=
  Rd H a (.lst xs) ∨
    ∃ (o : Obj) (its : Array Value) (n : Nat), K.lookup a = some o ∧ o.cls = .type "list" ∧ o.dict = none ∧ o.data = .seq its n ∧ its.size ≤ sizeLine ∧ Vals xs its.toList
def SqT (K : PySem.W.Frag) (H : Hp) (a : Addr) (xs : List V) : Prop :=
  Rd H a (.tup xs) ∨
    ∃ (o : Obj) (its : Array Value) (n : Nat), K.lookup a = some o ∧ o.cls = .type "tuple" ∧ o.data = .seq its n ∧ its.size ≤ sizeLine ∧ Vals xs its.toList
def absV : Value → Option V
  | .none => some .non
  | .bool b => some (.bl b)
  | .int i _ => some (.int i)
  | .str x _ => some (.str x)
  | .bytes b _ => some (.byt b)
  | .float b _ => some (.flt b)
  | .ref a => some (.ref a)
  | .type n => some (.ty n)
  | _ => none
theorem RelV.abs {x : V} {u : Value} (r : RelV x u) : absV u = some x := by
  cases x with
  | non => cases r; rfl
  | bl _ => cases r; rfl
  | int _ => obtain ⟨t, rfl⟩ := r; rfl
  | str _ => obtain ⟨t, rfl⟩ := r; rfl
  | byt _ => obtain ⟨t, rfl⟩ := r; rfl
  | flt _ => obtain ⟨t, rfl⟩ := r; rfl
  | ref _ => cases r; rfl
  | ty _ => cases r; rfl
theorem RelV.inj {x y : V} {u : Value} (r : RelV x u) (q : RelV y u) : x = y := Option.some.inj (r.abs.symm.trans q.abs)
theorem Vals.inj : ∀ {xs ys : List V} {us : List Value}, Vals xs us → Vals ys us → xs = ys
  | _, _, _, .nil, .nil => rfl
  | _, _, _, .cons r t, .cons r' t' => by rw [r.inj r', Vals.inj t t']
section
variable {X : Cx} {pins : List (Addr × Obj)} {σ : St} {H : Hp} {s : Shared} {a : Addr} {xs ys : List V}
theorem SqL.of {K : PySem.W.Frag} (h : H a = some (.lst xs)) : SqL K H a xs := .inl (.inl h)
theorem SqT.of {K : PySem.W.Frag} (h : H a = some (.tup xs)) : SqT K H a xs := .inl (.inl h)
theorem Inv.list (I : Inv X pins σ H s) (h : SqL X.K H a xs) : ∃ its : List Value, Vals xs its ∧ PlainL s.heap a its.toArray ∧ xs.length ≤ sizeLine := by
  rcases h with h | ⟨o, its, n, hk, hc, hd, hs, hz, r⟩
  · obtain ⟨z, its, n, r, e⟩ := h.ok I.hok
    exact ⟨its, r, ⟨_, n, e, rfl, rfl, rfl⟩, z⟩
  · refine ⟨its.toList, r, ⟨o, n, I.kIn a o hk, hc, hd, by simpa using hs⟩, ?_⟩
    have e := r.length
    simp only [Array.length_toList] at e
    omega
theorem Inv.tuple (I : Inv X pins σ H s) (h : SqT X.K H a xs) : ∃ its : List Value, Vals xs its ∧ IsTup s.heap a its.toArray ∧ xs.length ≤ sizeLine := by
  rcases h with h | ⟨o, its, n, hk, hc, hs, hz, r⟩
  · obtain ⟨z, its, r, p⟩ := h.ok I.hok
    exact ⟨its, r, p, z⟩
  · refine ⟨its.toList, r, ⟨o, I.kIn a o hk, hc, n, by simpa using hs⟩, ?_⟩
    have e := r.length
    simp only [Array.length_toList] at e
    omega
theorem Inv.list_inj (I : Inv X pins σ H s) (h : SqL X.K H a xs) (h' : SqL X.K H a ys) : xs = ys := by
  obtain ⟨its, r, ⟨o, n, e, _, _, d⟩, _⟩ := I.list h
  obtain ⟨its', r', ⟨o', n', e', _, _, d'⟩, _⟩ := I.list h'
  rw [e] at e'; cases e'
  rw [d] at d'
  injection d' with d1 _
  have : its = its' := by simpa using congrArg Array.toList d1
  subst this
  exact r.inj r'
end
abbrev Cx.wish (X : Cx) (E : Value → Shared → Prop) : Cx := { X with xe := E }
abbrev Cx.nox (X : Cx) : Cx := X.wish fun _ _ => False
theorem Cx.Ok.wish {X : Cx} (ok : X.Ok) (E : Value → Shared → Prop) : (X.wish E).Ok :=
  ⟨ok.mod, ok.kind, ok.glob, ok.blt, ok.above, ok.inj, ok.has, ok.cab, ok.hd, ok.frames, ok.stk, ok.exf, ok.bs, ok.bsz, ok.noex, ok.exfs, ok.funs, ok.frf⟩
theorem Cx.Ok.unwish {X : Cx} {E : Value → Shared → Prop} (ok : (X.wish E).Ok) : X.Ok :=
  ⟨ok.mod, ok.kind, ok.glob, ok.blt, ok.above, ok.inj, ok.has, ok.cab, ok.hd, ok.frames, ok.stk, ok.exf, ok.bs, ok.bsz, ok.noex, ok.exfs, ok.funs, ok.frf⟩
section
variable {X : Cx} {pins : List (Addr × Obj)} {σ : St} {H : Hp} {s : Shared} {E : Value → Shared → Prop}
theorem Inv.wish (I : Inv X pins σ H s) (E : Value → Shared → Prop) : Inv (X.wish E) pins σ H s := ⟨I.ok.wish E, I.os, I.bare, I.base, I.loc, I.cell, I.free, I.freeC, I.pin, I.hok, I.len⟩
theorem Inv.unwish (I : Inv (X.wish E) pins σ H s) : Inv X pins σ H s := ⟨I.ok.unwish, I.os, I.bare, I.base, I.loc, I.cell, I.free, I.freeC, I.pin, I.hok, I.len⟩
theorem SP.unwish {D : Ends} {f : Flow} {s' : Shared} (h : SP (X.wish E) pins D f s') : SP X pins D f s' := by
  cases f with
  | next => obtain ⟨σ', H', I, q⟩ := h; exact ⟨σ', H', I.unwish, q⟩
  | brk => obtain ⟨σ', H', I, q⟩ := h; exact ⟨σ', H', I.unwish, q⟩
  | cont => obtain ⟨σ', H', I, q⟩ := h; exact ⟨σ', H', I.unwish, q⟩
  | ret u => obtain ⟨v, σ', H', I, r, q⟩ := h; exact ⟨v, σ', H', I.unwish, r, q⟩
theorem PE.nox {e : Expr} {t : TE} (h : PE X.nox e t) : PE X e t := fun pins s σ H Q I hw =>
  wpAny_mono (h pins s σ H Q (I.wish _) hw) (fun _ _ ⟨v, H', I', r, q⟩ => ⟨v, H', I'.unwish, r, q⟩) fun _ _ z => False.elim z
theorem PT.nox {e : Expr} {t : TT} (h : PT X.nox e t) : PT X e t := fun pins s σ H Q I hw =>
  wpAny_mono (h pins s σ H Q (I.wish _) hw) (fun _ _ ⟨H', I', q⟩ => ⟨H', I'.unwish, q⟩) fun _ _ z => False.elim z
theorem PSs.nox {st : List Stmt} {t : TS} (h : PSs X.nox st t) : PSs X st t := fun pins s σ H D I hw =>
  wpAny_mono (h pins s σ H D (I.wish _) hw) (fun _ _ q => q.unwish) fun _ _ z => False.elim z
end
section
variable {X : Cx} {st : Stmt} {rest : List Stmt} {t u : TS} {e : Expr} {te : TE} {pos : Pos}
def tNext : TS := fun D σ H => D.nx σ H
def tSeq (t u : TS) : TS := fun D σ H => t { D with nx := u D } σ H
theorem pss_nil : PSs X [] tNext := fun _ _ σ H _ I h => wpAny_execs_nil ⟨σ, H, I, h⟩
theorem pss_cons (h1 : PS X st t) (h2 : PSs X rest u) : PSs X (st :: rest) (tSeq t u) := by
  intro pins s σ H D I h
  refine wpAny_execs_cons (thn (h1 pins s σ H { D with nx := u D } I h) fun f s1 q => ?_)
  cases f with
  | next =>
    obtain ⟨σ', H', I', q⟩ := q
    exact h2 pins s1 σ' H' D I' q
  | ret v => exact q
  | brk => exact q
  | cont => exact q
theorem pss_one (h1 : PS X st t) : PSs X [st] t := by
  intro pins s σ H D I h
  refine wpAny_execs_cons (thn (h1 pins s σ H D I h) fun f s1 q => ?_)
  cases f with
  | next => exact wpAny_execs_nil q
  | ret v => exact q
  | brk => exact q
  | cont => exact q
def tBreak : TS := fun D σ H => D.bk σ H
def tCont : TS := fun D σ H => D.ct σ H
theorem Inv.quiet {pins : List (Addr × Obj)} {σ : St} {H : Hp} {s : Shared} (I : Inv X pins σ H s) : interactive X.env = false := by simp [interactive, I.ok.kind]
def tDrop (te : TE) : TS := fun D σ H => te σ H fun _ H1 => D.nx σ H1
theorem ps_expr (he : PE X e te) (hs : swapsWith e none pos.line X.env = pure false := by rfl) : PS X (.Expr e pos) (tDrop te) := by
  intro pins s σ H D I h
  exact wpAny_Expr_any (thn (he pins s σ H _ I h) fun v s1 ⟨x, H1, I1, r1, q1⟩ => ⟨σ, H1, I1, q1⟩) I.quiet hs
def tRet (te : TE) : TS := fun D σ H => te σ H D.rt
theorem ps_ret (he : PE X e te) : PS X (.Return (some e) pos) (tRet te) := by
  intro pins s σ H D I h
  exact wpAny_Return_some (thn (he pins s σ H _ I h) fun v s1 ⟨x, H1, I1, r1, q1⟩ => ⟨x, σ, H1, I1, r1, q1⟩)
def tRetN : TS := fun D _ H => D.rt .non H
def tIfS (c : TT) (t u : TS) : TS := fun D σ H => c σ H fun b H1 => if b = true then t D σ H1 else u D σ H1
theorem ps_if {c : Expr} {a b : List Stmt} {tc : TT} (hc : PT X c tc) (ha : PSs X a t) (hb : PSs X b u) : PS X (.If c a b pos) (tIfS tc t u) := by
  intro pins s σ H D I h
  refine wpAny_If (thn (hc pins s σ H _ I h) fun d s1 ⟨H1, I1, q1⟩ => ?_)
  cases d with
  | true => exact ha pins s1 σ H1 D I1 q1
  | false => exact hb pins s1 σ H1 D I1 q1
def tNever : TS := fun _ _ _ => False
end
abbrev TG := V → St → Hp → (St → Hp → Prop) → Prop
abbrev TGs := List V → St → Hp → (St → Hp → Prop) → Prop
def PG (X : Cx) (target : Expr) (t : TG) : Prop :=
  ∀ (pins : List (Addr × Obj)) (s : Shared) (σ : St) (H : Hp) (v : V) (u : Value) (Q : St → Hp → Prop), Inv X pins σ H s → RelV v u → t v σ H Q →
    wpAny (model X.prog X.w) X.A (assign target X.env u) (fun _ s' => ∃ σ' H', Inv X pins σ' H' s' ∧ Q σ' H') X.xe s
def PGs (X : Cx) (ts : List Expr) (t : TGs) : Prop :=
  ∀ (pins : List (Addr × Obj)) (s : Shared) (σ : St) (H : Hp) (vs : List V) (us : List Value) (Q : St → Hp → Prop), Inv X pins σ H s → Vals vs us → t vs σ H Q →
    wpAny (model X.prog X.w) X.A (assignInOrder ((assignEach ts X.env).map (·.2)) us) (fun _ s' => ∃ σ' H', Inv X pins σ' H' s' ∧ Q σ' H') X.xe s
abbrev TSet := V → V → V → Hp → (Hp → Prop) → Prop
def PSet (X : Cx) (t : TSet) : Prop :=
  ∀ (pins : List (Addr × Obj)) (s : Shared) (σ : St) (H : Hp) (o i v : V) (ov iv u : Value) (Q : Hp → Prop), Inv X pins σ H s → RelV o ov → RelV i iv → RelV v u → t o i v H Q →
    wpAny (model X.prog X.w) X.A (setItem ov iv u) (fun _ s' => ∃ H', Inv X pins σ H' s' ∧ Q H') X.xe s
abbrev TIp := V → V → Hp → VK → Prop
def PIp (X : Cx) (op : Operator) (t : TIp) : Prop :=
  ∀ (pins : List (Addr × Obj)) (s : Shared) (σ : St) (H : Hp) (x y : V) (v u : Value) (Q : VK), Inv X pins σ H s → RelV x v → RelV y u → t x y H Q →
    wpAny (model X.prog X.w) X.A (inplaceOp op v u) (EP X pins σ Q) X.xe s
section
variable {X : Cx} {pos : Pos}
def gName (i : Nat) : TG := fun v σ H Q => Q (σ.set i (some v)) H
theorem pg_name {i : Nat} {x : Str} (hN : X.N.Nodup) (hi : X.N[i]? = some x) (hx : Loc X.env.scope x) (hf : X.fn x = true ∨ X.env.scope.names.lookup x = some .local := by first | exact .inl rfl | exact .inr rfl | assumption) : PG X (.Name x pos) (gName i) := by
  intro pins s σ H v u Q I r h
  exact wpAny_assign_Name (store_ok I hN hi hx r (fun s' I' => ⟨_, H, I', h⟩) hf)
def gNil : TGs := fun vs σ H Q => vs = [] ∧ Q σ H
def gCons (t : TG) (u : TGs) : TGs := fun vs σ H Q => ∃ v r, vs = v :: r ∧ t v σ H fun σ' H' => u r σ' H' Q
theorem pgs_nil : PGs X [] gNil := by
  intro pins s σ H vs us Q I r h
  obtain ⟨e, h⟩ := h
  subst e
  cases r
  exact assignInOrder_nil ⟨σ, H, I, h⟩
theorem pgs_cons {e : Expr} {es : List Expr} {t : TG} {u : TGs} (h1 : PG X e t) (h2 : PGs X es u)
    (hs : (assignEach (e :: es) X.env).map (·.2) = assign e X.env :: (assignEach es X.env).map (·.2) := by rfl) : PGs X (e :: es) (gCons t u) := by
  intro pins s σ H vs us Q I r h
  obtain ⟨v, vr, e1, h⟩ := h
  subst e1
  cases r with
  | cons r rr =>
    rw [hs]
    refine assignInOrder_cons (thn (h1 pins s σ H _ _ _ I r h) fun _ s1 ⟨σ1, H1, I1, q1⟩ => ?_)
    exact h2 pins s1 σ1 H1 _ _ Q I1 rr q1
def gTup (K : PySem.W.Frag) (n : Nat) (t : TGs) : TG := fun v σ H Q => ∃ a xs, v = .ref a ∧ SqT K H a xs ∧ xs.length = n ∧ t xs σ H Q
theorem pg_tup {es : List Expr} {k : Nat} {t : TGs} {n : Nat} (hc : X.calm = true) (h : PGs X es t)
    (hn : (assignEach es X.env).length = n := by rfl) (hst : (assignEach es X.env).findIdx? (·.1) = none := by rfl) : PG X (.Tuple es k pos) (gTup X.K n t) := by
  intro pins s σ H v u Q I r hw
  obtain ⟨a, xs, e1, hq, hl, hw⟩ := hw
  subst e1
  cases r
  obtain ⟨its, rv, ht, hz⟩ := I.tuple hq
  refine assign_Tuple_tuple (I.ok.hd hc) ht (by simp [hn, ← hl, rv.length]) hst fun h' hx => ?_
  have I1 : Inv X pins σ H { s with heap := h' } := I.kept (t' := s.toks) fun b o e => hx b o (Nat.ne_of_lt (Heap.lt_size e)) e
  exact h pins _ σ H xs _ Q I1 (by simpa using rv) hw
def gSub (to ti : TE) (t : TSet) : TG := fun v σ H Q => to σ H fun o H1 => ti σ H1 fun i H2 => t o i v H2 fun H3 => Q σ H3
theorem pg_sub {o i : Expr} {to ti : TE} {t : TSet} (ho : PE X o to) (hi : PE X i ti) (hs : PSet X t)
    (ha : ∀ v, assign (.Subscript o i pos) X.env v = (do
      let ov ← holding [v] (eval o X.env)
      let iv ← holding [v, ov] (eval i X.env)
      standAt pos
      holding [v, ov, iv] (setItem ov iv v)
      release [v, ov, iv] []) := by intro _; rfl) : PG X (.Subscript o i pos) (gSub to ti t) := by
  intro pins s σ H v u Q I r h
  rw [ha]
  refine wpAny_bind (wpAny_holding (thn (ho pins s σ H _ I h) fun ov s1 ⟨x, H1, I1, r1, q1⟩ => ?_))
  refine wpAny_bind (wpAny_holding (thn (hi pins s1 σ H1 _ I1 q1) fun iv s2 ⟨y, H2, I2, r2, q2⟩ => ?_))
  refine wpAny_bind (wpAny_standAt (wpAny_bind (wpAny_holding (thn (hs pins s2 σ H2 x y v ov iv u _ I2 r1 r2 r q2) fun _ s3 ⟨H3, I3, q3⟩ => ?_))))
  exact wpAny_release ⟨σ, H3, I3, q3⟩
def tAsg (te : TE) (g : TG) : TS := fun D σ H => te σ H fun x H1 => g x σ H1 D.nx
theorem ps_asg {tg e : Expr} {te : TE} {g : TG} (he : PE X e te) (hg : PG X tg g) (hs : swapsWithSole [tg] e pos.line X.env = pure false := by rfl) (hw : swappedStores [tg] e X.env = pure none := by rfl)
    (h1 : (assignEach [tg] X.env).map (·.2) = [assign tg X.env] := by rfl) : PS X (.Assign [tg] e pos) (tAsg te g) := by
  intro pins s σ H D I h
  refine wpAny_Assign_stores (thn (he pins s σ H _ I h) fun v s1 ⟨x, H1, I1, r1, q1⟩ => ?_) hs hw
  rw [h1]
  exact thn (hg pins s1 σ H1 x v _ I1 r1 q1) fun _ s2 q => q
theorem ps_set {i : Nat} {x : Str} {e : Expr} {te : TE} {pos' : Pos} (hN : X.N.Nodup) (hi : X.N[i]? = some x) (hx : Loc X.env.scope x) (he : PE X e te) (hs : swapsWith e (some (.Name x pos')) pos.line X.env = pure false := by rfl) (hf : X.fn x = true ∨ X.env.scope.names.lookup x = some .local := by first | exact .inl rfl | exact .inr rfl | assumption) :
    PS X (.Assign [.Name x pos'] e pos) (tAsg te (gName i)) := by
  intro pins s σ H D I h
  refine wpAny_Assign_Name (thn (he pins s σ H _ I h) fun v s1 ⟨y, H1, I1, r1, q1⟩ => ?_) hs
  exact store_ok I1 hN hi hx r1 (fun s2 I2 => ⟨_, H1, I2, q1⟩) hf
def tPar (i j : Nat) (ta : TA) : TS := fun D σ H => ta σ H fun vs H1 => ∃ v w, vs = [v, w] ∧ D.nx ((σ.set i (some v)).set j (some w)) H1
def tAug (i : Nat) (te : TE) (ti : TIp) : TS := fun D σ H => ∃ x, σ[i]? = some (some x) ∧ te σ H fun y H1 => ti x y H1 fun z H2 => D.nx (σ.set i (some z)) H2
theorem ps_aug {i : Nat} {x : Str} {e : Expr} {te : TE} {op : Operator} {ti : TIp} {pos' : Pos} (hN : X.N.Nodup) (hi : X.N[i]? = some x) (hx : Loc X.env.scope x) (he : PE X e te) (ho : PIp X op ti) (hf : X.fn x = true ∨ X.env.scope.names.lookup x = some .local := by first | exact .inl rfl | exact .inr rfl | assumption) :
    PS X (.AugAssign (.Name x pos') op e pos) (tAug i te ti) := by
  intro pins s σ H D I h
  obtain ⟨v, e1, h⟩ := h
  obtain ⟨m, hn, hl⟩ := I.loc
  have vis : Vis X.env.scope x := by rcases hx with k | k; exact .inl k; exact .inr (.inl k)
  obtain ⟨u, r, l⟩ := hl i x v hi e1 vis
  refine wpAny_AugAssign_Name ?_
  have go : wpAny (model X.prog X.w) X.A (eval e X.env) (fun w s₂ => wpAny (model X.prog X.w) X.A (inplaceOp op u w) (fun r s₃ => wpAny (model X.prog X.w) X.A (storeName X.env x r) (fun _ => SP X pins D .next) X.xe s₃) X.xe s₂) X.xe s := by
    refine thn (he pins s σ H _ I h) fun w s1 ⟨y, H1, I1, r1, q1⟩ => ?_
    refine thn (ho pins s1 σ H1 v y u w _ I1 r r1 q1) fun z s2 ⟨zv, H2, I2, r2, q2⟩ => ?_
    exact store_ok I2 hN hi hx r2 (fun s3 I3 => ⟨_, H2, I3, q2⟩) hf
  rcases l with ⟨hk, hm⟩ | ⟨hk, c, hc, hcell⟩
  · exact wpAny_loadName_local I.ok.kind hk hn hm go
  · rcases hk with hk | hk
    · exact wpAny_loadName_cell I.ok.kind hk hc hcell go
    · rcases hx with k | k
      · have : X.env.scope.names.lookup x = some .free := hk
        rw [k] at this; cases this
      · have : X.env.scope.names.lookup x = some .free := hk
        rw [k] at this; cases this
def tAugS (to ti te : TE) (tget : V → V → Hp → VK → Prop) (tip : TIp) (tset : TSet) : TS := fun D σ H => to σ H fun o H1 => ti σ H1 fun i H2 => tget o i H2 fun x H3 => te σ H3 fun y H4 => tip x y H4 fun z H5 => tset o i z H5 fun H6 => D.nx σ H6
def PGet (X : Cx) (t : V → V → Hp → VK → Prop) : Prop :=
  ∀ (pins : List (Addr × Obj)) (s : Shared) (σ : St) (H : Hp) (o i : V) (ov iv : Value) (Q : VK), Inv X pins σ H s → RelV o ov → RelV i iv → t o i H Q →
    wpAny (model X.prog X.w) X.A (getItem ov iv) (EP X pins σ Q) X.xe s
def ipI (f : Int → Int → Int) : TIp := fun x y H Q => ∃ i j, x = .int i ∧ y = .int j ∧ Q (.int (f i j)) H
theorem ip_add : PIp X .Add (ipI fun i j => i + j) := by
  intro pins s σ H x y v u Q I r1 r2 h
  obtain ⟨i, j, e1, e2, q⟩ := h
  subst e1; subst e2
  obtain ⟨t, rfl⟩ := r1
  obtain ⟨t', rfl⟩ := r2
  exact iadd_int ⟨.int _, H, I.tok _, ⟨_, rfl⟩, q⟩
end
section
variable {X : Cx} {pos : Pos}
def tWhile (c : TT) (tb : TS) : TS := fun D σ H => ∃ W : Nat → St → Hp → Prop, (∃ m, W m σ H) ∧ ∀ m σ H, W m σ H →
  c σ H fun b H1 => if b = true then ∃ N : St → Hp → Prop, (∀ σ' H', N σ' H' → ∃ m', m' < m ∧ W m' σ' H') ∧ tb { D with nx := N, ct := N, bk := D.nx } σ H1 else D.nx σ H1
theorem ps_while {c : Expr} {body : List Stmt} {tc : TT} {tb : TS} (hp : PassesOwn (model X.prog X.w) X.A X.env X.xe) (hc : PT X c tc) (hb : PSs X body tb) : PS X (.While c body [] pos) (tWhile tc tb) := by
  intro pins s σ H D I h
  obtain ⟨W, ⟨m0, w0⟩, turn⟩ := h
  refine wpAny_While (codeAny_whileLoop (fun n s' => ∃ σ' H', Inv X pins σ' H' s' ∧ W n σ' H') ?_ m0 ⟨σ, H, I, w0⟩)
  rintro n s1 ⟨σ1, H1, I1, w1⟩
  refine wpAny_passesOwn hp (thn (hc pins s1 σ1 H1 _ I1 (turn n σ1 H1 w1)) fun b s2 ⟨H2, I2, q2⟩ => ?_)
  cases b with
  | true =>
    obtain ⟨N, hN, q2⟩ := q2
    rw [if_pos rfl]
    refine wpAny_passesOwn hp (thn (hb pins s2 σ1 H2 _ I2 q2) fun f s3 q3 => ?_)
    cases f with
    | next =>
      obtain ⟨σ3, H3, I3, n3⟩ := q3
      obtain ⟨m', hm, w3⟩ := hN σ3 H3 n3
      exact ⟨m', hm, σ3, H3, I3, w3⟩
    | cont =>
      obtain ⟨σ3, H3, I3, n3⟩ := q3
      obtain ⟨m', hm, w3⟩ := hN σ3 H3 n3
      exact ⟨m', hm, σ3, H3, I3, w3⟩
    | brk => exact q3
    | ret v => exact q3
  | false =>
    rw [if_neg Bool.false_ne_true]
    exact wpAny_execs_nil ⟨σ1, H2, I2, q2⟩
end
structure It where
  go : Nat → Hp → Prop
  yld : Nat → Hp → V → Hp → Prop
  stop : Nat → Hp → Prop
def FpOk (X : Cx) (pins : List (Addr × Obj)) (H : Hp) (b : Addr) : Prop :=
  H b = none ∧ b ≠ X.env.locals ∧ b ∉ X.fs ∧ (b ∈ X.ex ∨ X.s₀.heap.objs.size ≤ b) ∧ (∀ x c, X.env.cells.lookup x = some c → c ≠ b) ∧ ∀ p ∈ X.pn ++ pins, p.1 ≠ b
theorem Inv.fpOk {X : Cx} {pins : List (Addr × Obj)} {σ : St} {H H' : Hp} {s : Shared} {b : Addr} (I : Inv X pins σ H s) (hb : s.heap.objs.size ≤ b) (hn : H' b = none) : FpOk X pins H' b := by
  refine ⟨hn, Nat.ne_of_gt (Nat.lt_of_lt_of_le I.lt hb), I.nofs hb, .inr (Nat.le_trans I.sz hb), fun x c e z => ?_, fun p hp z => ?_⟩
  · obtain ⟨v, q⟩ := I.cell x c e
    exact absurd (Nat.lt_of_lt_of_le q.lt (by rw [z]; exact hb)) (Nat.lt_irrefl _)
  · exact absurd (Nat.lt_of_lt_of_le (Heap.lt_size (I.pin p hp).1) (by rw [z]; exact hb)) (Nat.lt_irrefl _)
structure Turn (P : Program) (w : World) (K : PySem.W.Frag) (tg : Expr) (J : It) (fp : List Addr) (it : Addr) (tn : Nat → Heap → Prop) : Prop where
  mem : it ∈ fp
  obj : ∀ i h, tn i h → ∀ b ∈ fp, ∃ o, h.get? b = some o ∧ ∀ v, o.data ≠ .cell v
  keep : ∀ i h h', tn i h → (∀ b ∈ fp, ∀ o, h.get? b = some o → h'.get? b = some o) → tn i h'
  item : ∀ (X : Cx), X.prog = P → X.w = w → X.K = K → X.calm = true → ∀ (i : Nat) (pins : List (Addr × Obj)) (s : Shared) (σ : St) (H : Hp) (E : Value → Shared → Prop), Inv X pins σ H s → (∀ b ∈ fp, FpOk X pins H b) → tn i s.heap → J.go i H →
    wpAny (model P w) X.A (pyNext (.ref it)) (fun r s1 => ∃ u, r = some u ∧
      wpAny (model P w) X.A (letOwnedTupleGo tg (.ref it) u) (fun _ s2 => ∃ x H', Inv X pins σ H' s2 ∧ RelV x u ∧ J.yld i H x H' ∧ tn (i + 1) s2.heap ∧ ∀ b ∈ fp, H' b = none) E s1) E s
  done : ∀ (X : Cx), X.prog = P → X.w = w → X.K = K → X.calm = true → ∀ (i : Nat) (pins : List (Addr × Obj)) (s : Shared) (σ : St) (H : Hp) (E : Value → Shared → Prop), Inv X pins σ H s → (∀ b ∈ fp, FpOk X pins H b) → tn i s.heap → J.stop i H →
    wpAny (model P w) X.A (pyNext (.ref it)) (fun r s1 => r = none ∧ Inv X pins σ H s1) E s
  self : ∀ (A : Around) (i : Nat) (s : Shared) (Q : Value → Shared → Prop) (E : Value → Shared → Prop), tn i s.heap → Q (.ref it) s → wpAny (model P w) A (pyIter (.ref it)) Q E s
abbrev TI := St → Hp → (It → Hp → Prop) → Prop
def PIE (X : Cx) (pins : List (Addr × Obj)) (σ : St) (tg : Expr) (R : It → Hp → Prop) (itv : Value) (s2 : Shared) : Prop :=
  ∃ (it : Addr) (fp : List Addr) (tn : Nat → Heap → Prop) (J : It) (H' : Hp), itv = .ref it ∧ Inv X pins σ H' s2 ∧ Turn X.prog X.w X.K tg J fp it tn ∧ tn 0 s2.heap ∧ (∀ b ∈ fp, FpOk X pins H' b) ∧ R J H'
def PI (X : Cx) (tg iter : Expr) (wi : TI) : Prop :=
  ∀ (pins : List (Addr × Obj)) (s : Shared) (σ : St) (H : Hp) (R : It → Hp → Prop), Inv X pins σ H s → wi σ H R →
    wpAny (model X.prog X.w) X.A (eval iter X.env) (fun v s1 => wpAny (model X.prog X.w) X.A (pyIter v) (PIE X pins σ tg R) X.xe s1) X.xe s
theorem go_of {M : Model} {A : Around} {E : Value → Shared → Prop} {s : Shared} {tg : Expr} {it : Addr} {u : Value} {o : Obj} {n : String} {vs : Array Value} {Q : Unit → Shared → Prop} (ho : s.heap.get? it = some o) (hc : o.cls = .type n) (hd : o.data = .fields vs)
    (hn : ["enumerate", "zip", "dict_itemiterator", "dict_reverseitemiterator", "odict_iterator", "itertools.zip_longest", "itertools.pairwise"].contains n = false) (hQ : Q () s) : wpAny M A (letOwnedTupleGo tg (.ref it) u) Q E s := by
  unfold letOwnedTupleGo
  cases tg <;> first
    | exact wpAny_pure hQ
    | (cases u <;> first
        | exact wpAny_pure hQ
        | (refine wpAny_bind (wpAny_load ho ?_)
           rw [hc, hd]
           show wpAny M A (if (["enumerate", "zip", "dict_itemiterator", "dict_reverseitemiterator", "odict_iterator", "itertools.zip_longest", "itertools.pairwise"].contains n && vs[0]? == some (rawInt _)) = true then _ else _) Q E s
           rw [if_neg (by intro h; rw [hn, Bool.false_and] at h; cases h)]
           exact wpAny_pure hQ))
def Itl (K : PySem.W.Frag) (a : Addr) : It :=
  ⟨fun i H => ∃ xs x, SqL K H a xs ∧ xs[i]? = some x, fun i H x H' => H' = H ∧ ∀ xs, SqL K H a xs → xs[i]? = some x, fun i H => ∃ xs, SqL K H a xs ∧ xs.length ≤ i⟩
def Itt (K : PySem.W.Frag) (a : Addr) : It :=
  ⟨fun i H => ∃ xs x, SqT K H a xs ∧ xs[i]? = some x, fun i H x H' => H' = H ∧ ∀ xs, SqT K H a xs → xs[i]? = some x, fun i H => ∃ xs, SqT K H a xs ∧ xs.length ≤ i⟩
def Itr (lo : Int) (n : Nat) : It := ⟨fun i _ => i < n, fun i H x H' => H' = H ∧ x = .int (lo + i), fun i _ => n ≤ i⟩
theorem turn_list {P : Program} {w : World} {K : PySem.W.Frag} {tg : Expr} (a it : Addr) : Turn P w K tg (Itl K a) [it] it (fun i h => h.IsListIter it a i) where
  mem := by simp
  obj := fun i h st b hb => by
    have e : b = it := by simpa using hb
    subst e
    obtain ⟨o, e, c, d⟩ := st
    exact ⟨o, e, fun v z => by rw [d] at z; cases z⟩
  keep := fun i h h' st k => st.at fun o e => k it (by simp) o e
  item := by
    intro X hP hw hK hc i pins s σ H E I hf st hg
    subst hP hw hK
    obtain ⟨xs, x, hq, hx⟩ := hg
    obtain ⟨its, rv, p, hz⟩ := I.list hq
    obtain ⟨u, hu, ru⟩ := rv.get hx
    obtain ⟨f0, f1, f2, f3, f4, f5⟩ := hf it (by simp)
    refine wpAny_pyNext_list_item st p.isList (x := u) (by simpa using hu) fun h' st' sb => ?_
    have I1 : Inv X pins σ H { s with heap := h' } := I.turned (t' := s.toks) (fun b o hb e => (sb.2 b hb).trans e) f0 f1 f3 f4 f5
    obtain ⟨o, e, c, d⟩ := id st'
    exact ⟨u, rfl, go_of (s := { s with heap := h' }) e c d (by decide) ⟨x, H, I1, ru, ⟨rfl, fun ys hy => by rw [I.list_inj hy hq]; exact hx⟩, st', fun b hb => (hf b hb).1⟩⟩
  done := by
    intro X hP hw hK hc i pins s σ H E I hf st hg
    subst hP hw hK
    obtain ⟨xs, hq, hx⟩ := hg
    obtain ⟨its, rv, p, hz⟩ := I.list hq
    obtain ⟨f0, f1, f2, f3, f4, f5⟩ := hf it (by simp)
    have hl := rv.length
    exact wpAny_pyNext_list_end (I.ok.hd hc) st p.isList (by simp; omega) fun h' eb => ⟨rfl, I.turned (t' := s.toks) (fun b o hb e => eb b o hb e) f0 f1 f3 f4 f5⟩
  self := fun _ _ _ _ _ st h => wpAny_pyIter_listiter st h
theorem turn_range {P : Program} {w : World} {K : PySem.W.Frag} {tg : Expr} (it : Addr) (lo : Int) (n : Nat) : Turn P w K tg (Itr lo n) [it] it (fun i h => IsRangeIter h it (lo + (i : Nat) * 1) ((n : Int) - (i : Nat)) 1) where
  mem := by simp
  obj := fun i h st b hb => by
    have e : b = it := by simpa using hb
    subst e
    exact ⟨_, st, fun v z => by
      have z' : Data.fields _ = Data.cell v := z
      cases z'⟩
  keep := fun i h h' st k => k it (by simp) _ st
  item := by
    intro X hP hw hK hc i pins s σ H E I hf st hg
    subst hP hw hK
    obtain ⟨f0, f1, f2, f3, f4, f5⟩ := hf it (by simp)
    have W := Walks.range (prog := X.prog) (w := X.w) (I.ok.hd hc) it lo 1 n
    refine W.item i s _ _ hg st fun v h' tk hv st' kk => ?_
    obtain ⟨t, rfl⟩ := hv
    have I1 : Inv X pins σ H { s with heap := h', toks := tk } := I.turned (fun b o hb e => kk b o (by simpa using hb) e) f0 f1 f3 f4 f5
    refine ⟨_, rfl, go_of (s := { s with heap := h', toks := tk }) (n := "range_iterator") st' rfl rfl (by decide) ⟨.int (lo + i), H, I1, ⟨t, ?_⟩, ⟨rfl, rfl⟩, st', fun b hb => (hf b hb).1⟩⟩
    rw [Int.mul_one]
  done := by
    intro X hP hw hK hc i pins s σ H E I hf st hg
    subst hP hw hK
    obtain ⟨f0, f1, f2, f3, f4, f5⟩ := hf it (by simp)
    exact wpAny_pyNext_range_end (I.ok.hd hc) st (by have : n ≤ i := hg; omega) fun h' eb => ⟨rfl, I.turned (t' := s.toks) (fun b o hb e => eb b o hb e) f0 f1 f3 f4 f5⟩
  self := fun _ _ _ _ _ st h => wpAny_pyIter_rangeiter st h
end L2
namespace L2
open PySem PySem.Spec PyProof.Rows
section
variable {X : Cx} {tg : Expr}
def iList (K : PySem.W.Frag) (tl : TE) : TI := fun σ H R => tl σ H fun x H1 => ∃ a, x = .ref a ∧ (∃ xs, SqL K H1 a xs) ∧ R (Itl K a) H1
def iTup (K : PySem.W.Frag) (tl : TE) : TI := fun σ H R => tl σ H fun x H1 => ∃ a, x = .ref a ∧ (∃ xs, SqT K H1 a xs) ∧ R (Itt K a) H1
theorem pi_list {l : Expr} {tl : TE} (hl : PE X l tl) : PI X tg l (iList X.K tl) := by
  intro pins s σ H R I h
  refine thn (hl pins s σ H _ I h) fun v s1 ⟨x, H1, I1, r1, q1⟩ => ?_
  obtain ⟨a, e, ⟨xs, hq⟩, q⟩ := q1
  subst e
  cases r1
  obtain ⟨its, rv, p, hz⟩ := I1.list hq
  refine wpAny_pyIter_list p.isList ?_
  refine ⟨s1.heap.objs.size, [s1.heap.objs.size], _, _, H1, rfl, I1.kept (t' := s1.toks) fun b o e => Heap.get?_push_of_some _ e, turn_list a _, ⟨_, Heap.get?_push_size _ rfl, rfl, rfl⟩, fun b hb => ?_, q⟩
  have e : b = s1.heap.objs.size := by simpa using hb
  subst e
  exact I1.fpOk (Nat.le_refl _) (I1.hok.fresh (Nat.le_refl _))
theorem range_it {pins : List (Addr × Obj)} {σ : St} {H : Hp} {s : Shared} {R : It → Hp → Prop} {E : Value → Shared → Prop} {lo hi : Int} {t u v : Tok} {tk : Nat} (I : Inv X pins σ H s) (h1 : -(2 ^ 62) ≤ lo) (h2 : lo < 2 ^ 62) (h3 : -(2 ^ 62) ≤ hi) (h4 : hi < 2 ^ 62)
    (q : R (Itr lo (hi - lo).toNat) H) : wpAny (model X.prog X.w) X.A (pyIter (.ref s.heap.objs.size)) (PIE X pins σ tg R) E { s with heap := s.heap.push { cls := .type "range", data := .fields #[.int lo t, .int hi u, .int 1 v] }, toks := tk } := by
  refine wpAny_pyIter_range (IsRange.new ..) (small_one h1 h2 h3 h4) ?_
  have I1 : Inv X pins σ H { s with heap := s.heap.push { cls := .type "range", data := .fields #[.int lo t, .int hi u, .int 1 v] }, toks := tk } := I.kept fun b o e => Heap.get?_push_of_some _ e
  refine ⟨(s.heap.push { cls := .type "range", data := .fields #[.int lo t, .int hi u, .int 1 v] }).objs.size, [(s.heap.push { cls := .type "range", data := .fields #[.int lo t, .int hi u, .int 1 v] }).objs.size], _, _, H, rfl,
    I1.kept (t' := tk) fun b o e => Heap.get?_push_of_some _ e, turn_range _ lo (hi - lo).toNat, ?_, fun b hb => ?_, q⟩
  · have e1 : lo + ((0 : Nat) : Int) * 1 = lo := by simp
    have e2 : (((hi - lo).toNat : Nat) : Int) - ((0 : Nat) : Int) = Builtin.Range.rangeSize lo hi 1 := by rw [rangeSize_one]; split <;> omega
    show IsRangeIter _ _ (lo + ((0 : Nat) : Int) * 1) ((((hi - lo).toNat : Nat) : Int) - ((0 : Nat) : Int)) 1
    rw [e1, e2]
    exact Heap.get?_push_size _ rfl
  · have e : b = (s.heap.push { cls := .type "range", data := .fields #[.int lo t, .int hi u, .int 1 v] }).objs.size := by simpa using hb
    subst e
    exact I1.fpOk (Nat.le_refl _) (I1.hok.fresh (Nat.le_refl _))
def iRng1 (ta : TA) : TI := fun σ H R => ta σ H fun vs H1 => ∃ j : Int, vs = [.int j] ∧ -(2 ^ 62) ≤ j ∧ j < 2 ^ 62 ∧ R (Itr 0 j.toNat) H1
def iRng2 (ta : TA) : TI := fun σ H R => ta σ H fun vs H1 => ∃ i j : Int, vs = [.int i, .int j] ∧ (-(2 ^ 62) ≤ i ∧ i < 2 ^ 62 ∧ -(2 ^ 62) ≤ j ∧ j < 2 ^ 62) ∧ R (Itr i (j - i).toNat) H1
theorem pi_range1 {a : Expr} {ta : TA} {p pos : Pos} (hg : Gl X "range") (hm : X.mg "range" = none) (ha : PA X [a] ta) (hs : starEach [a] X.env = [(false, eval a X.env)] := by rfl) : PI X tg (.Call (.Name "range" p) [a] [] pos) (iRng1 ta) := by
  intro pins s σ H R I h
  refine Call_ (ld_blt I hg hm boot_range (PyProof.Rows.callWith_type1 (thn (ha pos pins s σ H _ I h) fun us s1 ⟨vs, H1, I1, r1, q1⟩ => ?_) hs rfl))
  obtain ⟨j, e, q1, q2, q⟩ := q1
  subst e
  cases r1 with
  | cons r rr =>
    cases rr
    obtain ⟨t, rfl⟩ := r
    exact call_range_1 (range_it I1 (by omega) (by omega) q1 q2 (by simpa using q))
def tFor (wi : TI) (g : TG) (tb : TS) : TS := fun D σ H => wi σ H fun J H1 => ∃ W : Nat → Nat → St → Hp → Prop, (∃ m, W 0 m σ H1) ∧ ∀ i m σ H, W i m σ H →
  (J.stop i H ∧ D.nx σ H) ∨ (J.go i H ∧ ∃ N : St → Hp → Prop, (∀ σ' H', N σ' H' → ∃ m', m' < m ∧ W (i + 1) m' σ' H') ∧ ∀ x H', J.yld i H x H' → g x σ H' fun σ2 H2 => tb { D with nx := N, ct := N, bk := D.nx } σ2 H2)
def pinsAt (fp : List Addr) (h : Heap) : List (Addr × Obj) := fp.filterMap fun b => (h.get? b).map fun o => (b, o)
theorem mem_pinsAt {fp : List Addr} {h : Heap} {b : Addr} {o : Obj} (hb : b ∈ fp) (e : h.get? b = some o) : (b, o) ∈ pinsAt fp h := List.mem_filterMap.mpr ⟨b, hb, by rw [e]; rfl⟩
theorem of_pinsAt {fp : List Addr} {h : Heap} {p : Addr × Obj} (hp : p ∈ pinsAt fp h) : p.1 ∈ fp ∧ h.get? p.1 = some p.2 := by
  obtain ⟨b, hb, e⟩ := List.mem_filterMap.mp hp
  cases q : h.get? b with
  | none => rw [q] at e; cases e
  | some o =>
    rw [q] at e
    have e' : (b, o) = p := Option.some.inj e
    subst e'
    exact ⟨hb, q⟩
theorem Inv.pinned {pins : List (Addr × Obj)} {σ : St} {H : Hp} {s : Shared} {fp : List Addr} (I : Inv X pins σ H s) (hf : ∀ b ∈ fp, FpOk X pins H b) (ho : ∀ b ∈ fp, ∃ o, s.heap.get? b = some o ∧ ∀ v, o.data ≠ .cell v) : Inv X (pins ++ pinsAt fp s.heap) σ H s :=
  I.pins_of fun p hp => (List.mem_append.mp hp).elim (fun z => I.pin p (List.mem_append_right _ z)) fun z => by
    obtain ⟨hb, e⟩ := of_pinsAt z
    obtain ⟨f0, f1, f2, _⟩ := hf p.1 hb
    obtain ⟨o, e', d⟩ := ho p.1 hb
    rw [e] at e'; cases e'
    exact ⟨e, f0, f1, f2, d⟩
theorem Inv.unpinned {pins pl : List (Addr × Obj)} {σ : St} {H : Hp} {s : Shared} (I : Inv X (pins ++ pl) σ H s) : Inv X pins σ H s := I.pins_of fun p hp => I.pin p (List.mem_append_right _ (List.mem_append_left _ hp))
theorem ps_for {iter : Expr} {body : List Stmt} {wi : TI} {g : TG} {tb : TS} {pos : Pos} (hp : PassesOwn (model X.prog X.w) X.A X.env X.xe) (hc : X.calm = true) (hi : PI X tg iter wi) (hg : PG X tg g) (hb : PSs X body tb)
    (hs : ∀ x, foldedSetIterable iter X.env x = pure x := by intro _; rfl) : PS X (.For tg iter body [] pos) (tFor wi g tb) := by
  intro pins s σ H D I h
  refine wpAny_For (thn (hi pins s σ H _ I h) fun v s1 h1 => thn h1 fun itv s2 h2 => ?_) hs
  obtain ⟨it, fp, tn, J, H2, e, I2, T, st2, f2, W, ⟨m0, w0⟩, turn⟩ := h2
  subst e
  have stat : ∀ {H' : Hp}, (∀ b ∈ fp, H' b = none) → ∀ b ∈ fp, FpOk X pins H' b := fun hn b hb => ⟨hn b hb, (f2 b hb).2⟩
  refine codeAny_forLoop_any (fun n s' => ∃ i σ' H', Inv X pins σ' H' s' ∧ tn i s'.heap ∧ (∀ b ∈ fp, H' b = none) ∧ W i n σ' H') ?_ m0 ⟨0, σ, H2, I2, st2, fun b hb => (f2 b hb).1, w0⟩
  rintro n s3 ⟨i, σ3, H3, I3, st3, fr3, w3⟩
  rcases turn i n σ3 H3 w3 with ⟨stop, qn⟩ | ⟨go, N, hN, step⟩
  · refine wpAny_passesOwn hp (thn (T.done X rfl rfl rfl hc i pins s3 σ3 H3 X.xe I3 (stat fr3) st3 stop) fun r s4 ⟨hr, I4⟩ => ?_)
    subst hr
    exact wpAny_execs_nil ⟨σ3, H3, I4, qn⟩
  · refine wpAny_passesOwn hp (thn (T.item X rfl rfl rfl hc i pins s3 σ3 H3 X.xe I3 (stat fr3) st3 go) fun r s4 ⟨u, hr, h4⟩ => ?_)
    subst hr
    refine wpAny_passesOwn hp (thn h4 fun _ s5 ⟨x, H5, I5, r5, y5, st5, fr5⟩ => ?_)
    have I5' := I5.pinned (stat fr5) (T.obj _ _ st5)
    refine wpAny_passesOwn hp (thn (hg _ s5 σ3 H5 x u _ I5' r5 (step x H5 y5)) fun _ s6 ⟨σ6, H6, I6, q6⟩ => ?_)
    refine wpAny_passesOwn hp (thn (hb _ s6 σ6 H6 _ I6 q6) fun f s7 q7 => ?_)
    have again : ∀ {σ7 : St} {H7 : Hp}, Inv X (pins ++ pinsAt fp s5.heap) σ7 H7 s7 → N σ7 H7 → ∃ m, m < n ∧ ∃ i σ' H', Inv X pins σ' H' s7 ∧ tn i s7.heap ∧ (∀ b ∈ fp, H' b = none) ∧ W i m σ' H' := fun {σ7 H7} I7 n7 => by
      obtain ⟨m', hm, w7⟩ := hN σ7 H7 n7
      refine ⟨m', hm, i + 1, σ7, H7, I7.unpinned, T.keep _ _ _ st5 fun b hb o e => (I7.pin (b, o) (List.mem_append_right _ (List.mem_append_right _ (mem_pinsAt hb e)))).1, fun b hb => ?_, w7⟩
      obtain ⟨o, e, d⟩ := T.obj _ _ st5 b hb
      exact (I7.pin (b, o) (List.mem_append_right _ (List.mem_append_right _ (mem_pinsAt hb e)))).2.1
    cases f with
    | next => obtain ⟨σ7, H7, I7, n7⟩ := q7; exact again I7 n7
    | cont => obtain ⟨σ7, H7, I7, n7⟩ := q7; exact again I7 n7
    | brk => obtain ⟨σ7, H7, I7, q7⟩ := q7; exact ⟨σ7, H7, I7.unpinned, q7⟩
    | ret v => obtain ⟨x7, σ7, H7, I7, r7, q7⟩ := q7; exact ⟨x7, σ7, H7, I7.unpinned, r7, q7⟩
end
theorem for_list {K : PySem.W.Frag} {a : Addr} {xs : List V} {g : TG} {tb : TS} {D : Ends} {σ : St} {H : Hp} (Pv : Nat → St → Hp → Prop) (h0 : Pv 0 σ H) (hl : ∀ i σ H, i ≤ xs.length → Pv i σ H → SqL K H a xs)
    (hs : ∀ i x σ H, xs[i]? = some x → Pv i σ H → g x σ H fun σ2 H2 => tb { D with nx := Pv (i + 1), ct := Pv (i + 1), bk := D.nx } σ2 H2) (hd : ∀ σ H, Pv xs.length σ H → D.nx σ H) :
    ∃ W : Nat → Nat → St → Hp → Prop, (∃ m, W 0 m σ H) ∧ ∀ i m σ H, W i m σ H →
      ((Itl K a).stop i H ∧ D.nx σ H) ∨ ((Itl K a).go i H ∧ ∃ N : St → Hp → Prop, (∀ σ' H', N σ' H' → ∃ m', m' < m ∧ W (i + 1) m' σ' H') ∧ ∀ x H', (Itl K a).yld i H x H' → g x σ H' fun σ2 H2 => tb { D with nx := N, ct := N, bk := D.nx } σ2 H2) := by
  refine ⟨fun i m σ H => m = xs.length - i ∧ i ≤ xs.length ∧ Pv i σ H, ⟨xs.length, by simp, Nat.zero_le _, h0⟩, ?_⟩
  rintro i m σ H ⟨rfl, hi, p⟩
  have q := hl i σ H hi p
  by_cases hlt : i < xs.length
  · refine .inr ⟨⟨xs, xs[i], q, by simp [hlt]⟩, Pv (i + 1), fun σ' H' p' => ⟨xs.length - (i + 1), by omega, rfl, hlt, p'⟩, fun x H' y => ?_⟩
    obtain ⟨e, y⟩ := y
    subst e
    exact hs i x σ _ (y xs q) p
  · have e : i = xs.length := by omega
    subst e
    exact .inl ⟨⟨xs, q, Nat.le_refl _⟩, hd σ H p⟩
theorem for_range {lo : Int} {n : Nat} {g : TG} {tb : TS} {D : Ends} {σ : St} {H : Hp} (Pv : Nat → St → Hp → Prop) (h0 : Pv 0 σ H)
    (hs : ∀ i σ H, i < n → Pv i σ H → g (.int (lo + i)) σ H fun σ2 H2 => tb { D with nx := Pv (i + 1), ct := Pv (i + 1), bk := D.nx } σ2 H2) (hd : ∀ σ H, Pv n σ H → D.nx σ H) :
    ∃ W : Nat → Nat → St → Hp → Prop, (∃ m, W 0 m σ H) ∧ ∀ i m σ H, W i m σ H →
      ((Itr lo n).stop i H ∧ D.nx σ H) ∨ ((Itr lo n).go i H ∧ ∃ N : St → Hp → Prop, (∀ σ' H', N σ' H' → ∃ m', m' < m ∧ W (i + 1) m' σ' H') ∧ ∀ x H', (Itr lo n).yld i H x H' → g x σ H' fun σ2 H2 => tb { D with nx := N, ct := N, bk := D.nx } σ2 H2) := by
  refine ⟨fun i m σ H => m = n - i ∧ i ≤ n ∧ Pv i σ H, ⟨n, by simp, Nat.zero_le _, h0⟩, ?_⟩
  rintro i m σ H ⟨rfl, hi, p⟩
  by_cases hlt : i < n
  · refine .inr ⟨hlt, Pv (i + 1), fun σ' H' p' => ⟨n - (i + 1), by omega, rfl, hlt, p'⟩, fun x H' y => ?_⟩
    obtain ⟨e, y⟩ := y
    subst e y
    exact hs i σ _ hlt p
  · have e : i = n := by omega
    subst e
    exact .inl ⟨Nat.le_refl _, hd σ H p⟩
end L2
namespace L2
open PySem PySem.Spec PyProof.Rows
abbrev R2 := V → V → Hp → VK → Prop
def OpR (X : Cx) (f : Value → Value → Sem Value) (r : R2) : Prop :=
  ∀ (pins : List (Addr × Obj)) (s : Shared) (σ : St) (H : Hp) (x y : V) (v u : Value) (Q : VK), Inv X pins σ H s → RelV x v → RelV y u → r x y H Q →
    wpAny (model X.prog X.w) X.A (f v u) (EP X pins σ Q) X.xe s
def UnR (X : Cx) (f : Value → Sem Value) (r : V → Hp → VK → Prop) : Prop :=
  ∀ (pins : List (Addr × Obj)) (s : Shared) (σ : St) (H : Hp) (x : V) (v : Value) (Q : VK), Inv X pins σ H s → RelV x v → r x H Q →
    wpAny (model X.prog X.w) X.A (f v) (EP X pins σ Q) X.xe s
def CallR (X : Cx) (f : Value) (r : List V → Hp → VK → Prop) : Prop :=
  ∀ (pins : List (Addr × Obj)) (s : Shared) (σ : St) (H : Hp) (xs : List V) (us : List Value) (Q : VK), Inv X pins σ H s → Vals xs us → r xs H Q →
    wpAny (model X.prog X.w) X.A (call f us) (EP X pins σ Q) X.xe s
def TruR (X : Cx) (r : V → Hp → (Bool → Hp → Prop) → Prop) : Prop :=
  ∀ (pins : List (Addr × Obj)) (s : Shared) (σ : St) (H : Hp) (x : V) (v : Value) (Q : Bool → Hp → Prop), Inv X pins σ H s → RelV x v → r x H Q →
    wpAny (model X.prog X.w) X.A (truthy v) (TP X pins σ Q) X.xe s
def tOp (r : R2) (ta tb : TE) : TE := fun σ H Q => ta σ H fun x H1 => tb σ H1 fun y H2 => r x y H2 Q
def tUn (r : V → Hp → VK → Prop) (ta : TE) : TE := fun σ H Q => ta σ H fun x H1 => r x H1 Q
def rI (C : Int → Int → Prop) (g : Int → Int → V) : R2 := fun x y H Q => ∃ i j, x = .int i ∧ y = .int j ∧ C i j ∧ Q (g i j) H
def rI0 (g : Int → Int → V) : R2 := fun x y H Q => ∃ i j, x = .int i ∧ y = .int j ∧ Q (g i j) H
def rU (g : Int → V) : V → Hp → VK → Prop := fun x H Q => ∃ i, x = .int i ∧ Q (g i) H
section
variable {X : Cx} {a b c : Expr} {ta tb tc : TE} {pos : Pos}
theorem binT (ha : PE X a ta) (hb : PE X b tb) {pins : List (Addr × Obj)} {s : Shared} {σ : St} {H : Hp} {R : V → V → Hp → Prop} (I : Inv X pins σ H s)
    (h : ta σ H fun x H1 => tb σ H1 fun y H2 => R x y H2) {Q : Value → Shared → Prop} {f : Value → Value → Sem Value}
    (hf : ∀ v u s2 x y H2, Inv X pins σ H2 s2 → RelV x v → RelV y u → R x y H2 → wpAny (model X.prog X.w) X.A (f v u) Q X.xe s2) :
    wpAny (model X.prog X.w) X.A (eval a X.env) (fun v s₁ => wpAny (model X.prog X.w) X.A (eval b X.env) (fun u s₂ => wpAny (model X.prog X.w) X.A (f v u) Q X.xe s₂) X.xe s₁) X.xe s := by
  refine thn (ha pins s σ H _ I h) fun v s1 ⟨x, H1, I1, r1, q1⟩ => ?_
  refine thn (hb pins s1 σ H1 _ I1 q1) fun u s2 ⟨y, H2, I2, r2, q2⟩ => ?_
  exact hf v u s2 x y H2 I2 r1 r2 q2
theorem pe_op {op : Operator} {r : R2} (ho : OpR X (binaryOp op) r) (ha : PE X a ta) (hb : PE X b tb) : PE X (.BinOp a op b pos) (tOp r ta tb) := by
  intro pins s σ H Q I h
  exact wpAny_BinOp (binT ha hb I h fun v u s2 x y H2 I2 rx ry q => ho pins s2 σ H2 x y v u Q I2 rx ry q)
theorem pe_un {op : UnaryOp} {r : V → Hp → VK → Prop} (ho : UnR X (unaryOp op) r) (ha : PE X a ta) : PE X (.UnaryOp op a pos) (tUn r ta) := by
  intro pins s σ H Q I h
  exact UnaryOp_ (thn (ha pins s σ H _ I h) fun v s1 ⟨x, H1, I1, r1, q1⟩ => ho pins s1 σ H1 x v Q I1 r1 q1)
theorem opI {f : Value → Value → Sem Value} {C : Int → Int → Prop} {g : Int → Int → Int}
    (rule : ∀ (i j : Int) (t u : Tok) (s : Shared) (Q : Value → Shared → Prop) (E : Value → Shared → Prop), C i j → Q (.int (g i j) s.toks) { s with toks := s.toks + 1 } → wpAny (model X.prog X.w) X.A (f (.int i t) (.int j u)) Q E s) :
    OpR X f (rI C fun i j => .int (g i j)) := by
  intro pins s σ H x y v u Q I rx ry h
  obtain ⟨i, j, rfl, rfl, hc, q⟩ := h
  obtain ⟨t, rfl⟩ := rx
  obtain ⟨t', rfl⟩ := ry
  exact rule i j t t' s _ _ hc ⟨.int (g i j), H, I.tok _, ⟨_, rfl⟩, q⟩
theorem opI0 {f : Value → Value → Sem Value} {g : Int → Int → Int}
    (rule : ∀ (i j : Int) (t u : Tok) (s : Shared) (Q : Value → Shared → Prop) (E : Value → Shared → Prop), Q (.int (g i j) s.toks) { s with toks := s.toks + 1 } → wpAny (model X.prog X.w) X.A (f (.int i t) (.int j u)) Q E s) :
    OpR X f (rI0 fun i j => .int (g i j)) := by
  intro pins s σ H x y v u Q I rx ry h
  obtain ⟨i, j, rfl, rfl, q⟩ := h
  obtain ⟨t, rfl⟩ := rx
  obtain ⟨t', rfl⟩ := ry
  exact rule i j t t' s _ _ ⟨.int (g i j), H, I.tok _, ⟨_, rfl⟩, q⟩
theorem opB0 {f : Value → Value → Sem Value} {g : Int → Int → Bool}
    (rule : ∀ (i j : Int) (t u : Tok) (s : Shared) (Q : Value → Shared → Prop) (E : Value → Shared → Prop), Q (.bool (g i j)) s → wpAny (model X.prog X.w) X.A (f (.int i t) (.int j u)) Q E s) :
    OpR X f (rI0 fun i j => .bl (g i j)) := by
  intro pins s σ H x y v u Q I rx ry h
  obtain ⟨i, j, rfl, rfl, q⟩ := h
  obtain ⟨t, rfl⟩ := rx
  obtain ⟨t', rfl⟩ := ry
  exact rule i j t t' s _ _ ⟨.bl (g i j), H, I, rfl, q⟩
def CDiv (i j : Int) : Prop := 0 < j ∧ j < 1073741824
def CDivN (i j : Int) : Prop := j ≠ 0 ∧ j.natAbs < 1073741824
def CPow (i j : Int) : Prop := 0 ≤ j ∧ j ≤ 1000000 ∧ i.natAbs < 2 ^ 64
def CMul (i j : Int) : Prop := (-(2 ^ 64) < i ∧ i < 2 ^ 64) ∨ (-(2 ^ 64) < j ∧ j < 2 ^ 64)
theorem CMul.ok {i j : Int} (h : CMul i j) : IntMulOk i j := by
  rcases h with ⟨h1, h2⟩ | ⟨h1, h2⟩
  · exact .of_left (intBits_le_64 h1 h2)
  · exact .of_right (intBits_le_64 h1 h2)
theorem op_add : OpR X (binaryOp .Add) (rI0 fun i j => .int (i + j)) := opI0 fun _ _ _ _ _ _ _ q => add_int q
theorem op_sub : OpR X (binaryOp .Sub) (rI0 fun i j => .int (i - j)) := opI0 fun _ _ _ _ _ _ _ q => sub_int q
theorem op_fdiv : OpR X (binaryOp .FloorDiv) (rI CDiv fun i j => .int (i / j)) := opI fun i j _ _ _ _ _ hc q => by
  have h1 : (0 : Int) < j := hc.1
  have h2 : j < 1073741824 := hc.2
  exact floordiv_int (by omega) (by rw [Int.fdiv_eq_ediv_of_nonneg i (by omega)]; exact q) (.inl (PyProof.noPylong_small (by omega)))
theorem op_mod : OpR X (binaryOp .Mod) (rI (fun _ j => 0 < j) fun i j => .int (i % j)) := opI fun i j _ _ _ _ _ hc q => by
  have h1 : (0 : Int) < j := hc
  exact mod_int' (by omega) (by rw [Int.fmod_eq_emod_of_nonneg i (by omega)]; exact q)
theorem unI {f : Value → Sem Value} {g : Int → Int}
    (rule : ∀ (i : Int) (t : Tok) (s : Shared) (Q : Value → Shared → Prop) (E : Value → Shared → Prop), Q (.int (g i) s.toks) { s with toks := s.toks + 1 } → wpAny (model X.prog X.w) X.A (f (.int i t)) Q E s) :
    UnR X f (rU fun i => .int (g i)) := by
  intro pins s σ H x v Q I rx h
  obtain ⟨i, rfl, q⟩ := h
  obtain ⟨t, rfl⟩ := rx
  exact rule i t s _ _ ⟨.int (g i), H, I.tok _, ⟨_, rfl⟩, q⟩
theorem un_neg : UnR X (unaryOp .USub) (rU fun i => .int (-i)) := unI fun _ _ _ _ _ q => neg_int q
end
def scal : V → V → Bool
  | .non, .non => true | .non, .int _ => true | .int _, .non => true | .non, .bl _ => true | .bl _, .non => true | .non, .str _ => true | .str _, .non => true
  | .int _, .int _ => true | .bl _, .bl _ => true | .str _, .str _ => true | .byt _, .byt _ => true
  | .int _, .str _ => true | .str _, .int _ => true | .bl _, .str _ => true | .str _, .bl _ => true
  | _, _ => false
def rEq : R2 := fun x y H Q => scal x y = true ∧ Q (.bl (decide (x = y))) H
def rNe : R2 := fun x y H Q => scal x y = true ∧ Q (.bl (!decide (x = y))) H
theorem dec_int {i j : Int} : decide (V.int i = V.int j) = (i == j) := by
  rw [Bool.eq_iff_iff]
  simp
theorem dec_bl {i j : Bool} : decide (V.bl i = V.bl j) = (i == j) := by
  rw [Bool.eq_iff_iff]
  simp
theorem dec_str {i j : Str} : decide (V.str i = V.str j) = (i == j) := by
  rw [Bool.eq_iff_iff]
  simp
theorem dec_byt {i j : Array UInt8} : decide (V.byt i = V.byt j) = (i.toList == j.toList) := by
  rw [Bool.eq_iff_iff]
  cases i
  cases j
  simp
section
variable {X : Cx} {a b c : Expr} {ta tb tc : TE} {pos : Pos}
theorem fin_bl {pins : List (Addr × Obj)} {σ : St} {H : Hp} {s : Shared} {Q : VK} {k k' : Bool} (I : Inv X pins σ H s) (q : Q (.bl k) H) (e : k = k') : EP X pins σ Q (.bool k') s := by
  subst e
  exact ⟨.bl k, H, I, rfl, q⟩
theorem op_eq : OpR X (compareOp .Eq) rEq := by
  intro pins s σ H x y v u Q I rx ry h
  obtain ⟨hs, q⟩ := h
  cases x with
  | non =>
    cases rx
    cases y with
    | non => cases ry; exact PySem.EqNone.eq_none_none (fin_bl I q (by simp))
    | bl j => cases ry; exact PySem.EqNone.eq_none_bool (fin_bl I q (by simp))
    | int j => obtain ⟨t', rfl⟩ := ry; exact PySem.EqNone.eq_none_int (fin_bl I q (by simp))
    | str j => obtain ⟨t', rfl⟩ := ry; exact PySem.EqNone.eq_none_str (fin_bl I q (by simp))
    | _ => exact absurd (show false = true from hs) Bool.false_ne_true
  | bl i =>
    cases rx
    cases y with
    | non => cases ry; exact PySem.EqNone.eq_bool_none (fin_bl I q (by simp))
    | bl j => cases ry; exact eq_bool (fin_bl I q dec_bl)
    | str j => obtain ⟨t', rfl⟩ := ry; exact PySem.EqMixed.eq_bool_str (fin_bl I q (by simp))
    | _ => exact absurd (show false = true from hs) Bool.false_ne_true
  | int i =>
    obtain ⟨t, rfl⟩ := rx
    cases y with
    | non => cases ry; exact PySem.EqNone.eq_int_none (fin_bl I q (by simp))
    | int j => obtain ⟨t', rfl⟩ := ry; exact eq_int (fin_bl I q dec_int)
    | str j => obtain ⟨t', rfl⟩ := ry; exact PySem.EqMixed.eq_int_str (fin_bl I q (by simp))
    | _ => exact absurd (show false = true from hs) Bool.false_ne_true
  | str i =>
    obtain ⟨t, rfl⟩ := rx
    cases y with
    | non => cases ry; exact PySem.EqNone.eq_str_none (fin_bl I q (by simp))
    | bl j => cases ry; exact PySem.EqMixed.eq_str_bool (fin_bl I q (by simp))
    | int j => obtain ⟨t', rfl⟩ := ry; exact PySem.EqMixed.eq_str_int (fin_bl I q (by simp))
    | str j => obtain ⟨t', rfl⟩ := ry; exact eq_str (fin_bl I q dec_str)
    | _ => exact absurd (show false = true from hs) Bool.false_ne_true
  | byt i =>
    obtain ⟨t, rfl⟩ := rx
    cases y with
    | byt j => obtain ⟨t', rfl⟩ := ry; exact PySem.W.eq_bytes (fin_bl I q dec_byt)
    | _ => exact absurd (show false = true from hs) Bool.false_ne_true
  | _ => cases y <;> exact absurd (show false = true from hs) Bool.false_ne_true
theorem op_ne : OpR X (compareOp .NotEq) rNe := by
  intro pins s σ H x y v u Q I rx ry h
  obtain ⟨hs, q⟩ := h
  cases x with
  | non =>
    cases rx
    cases y with
    | non => cases ry; exact PySem.EqNone.ne_none_none (fin_bl I q (by simp))
    | bl j => cases ry; exact PySem.EqNone.ne_none_bool (fin_bl I q (by simp))
    | int j => obtain ⟨t', rfl⟩ := ry; exact PySem.EqNone.ne_none_int (fin_bl I q (by simp))
    | str j => obtain ⟨t', rfl⟩ := ry; exact PySem.EqNone.ne_none_str (fin_bl I q (by simp))
    | _ => exact absurd (show false = true from hs) Bool.false_ne_true
  | bl i =>
    cases rx
    cases y with
    | non => cases ry; exact PySem.EqNone.ne_bool_none (fin_bl I q (by simp))
    | bl j => cases ry; exact ne_bool (fin_bl I q (congrArg not dec_bl))
    | str j => obtain ⟨t', rfl⟩ := ry; exact PySem.EqMixed.ne_bool_str (fin_bl I q (by simp))
    | _ => exact absurd (show false = true from hs) Bool.false_ne_true
  | int i =>
    obtain ⟨t, rfl⟩ := rx
    cases y with
    | non => cases ry; exact PySem.EqNone.ne_int_none (fin_bl I q (by simp))
    | int j => obtain ⟨t', rfl⟩ := ry; exact ne_int (fin_bl I q (congrArg not dec_int))
    | str j => obtain ⟨t', rfl⟩ := ry; exact PySem.EqMixed.ne_int_str (fin_bl I q (by simp))
    | _ => exact absurd (show false = true from hs) Bool.false_ne_true
  | str i =>
    obtain ⟨t, rfl⟩ := rx
    cases y with
    | non => cases ry; exact PySem.EqNone.ne_str_none (fin_bl I q (by simp))
    | bl j => cases ry; exact PySem.EqMixed.ne_str_bool (fin_bl I q (by simp))
    | int j => obtain ⟨t', rfl⟩ := ry; exact PySem.EqMixed.ne_str_int (fin_bl I q (by simp))
    | str j => obtain ⟨t', rfl⟩ := ry; exact ne_str (fin_bl I q (congrArg not dec_str))
    | _ => exact absurd (show false = true from hs) Bool.false_ne_true
  | byt i =>
    obtain ⟨t, rfl⟩ := rx
    cases y with
    | byt j => obtain ⟨t', rfl⟩ := ry; exact PySem.W.ne_bytes (fin_bl I q (congrArg not dec_byt))
    | _ => exact absurd (show false = true from hs) Bool.false_ne_true
  | _ => cases y <;> exact absurd (show false = true from hs) Bool.false_ne_true
theorem op_lt : OpR X (compareOp .Lt) (rI0 fun i j => .bl (decide (i < j))) := opB0 fun _ _ _ _ _ _ _ q => lt_int q
theorem op_le : OpR X (compareOp .LtE) (rI0 fun i j => .bl (decide (i ≤ j))) := opB0 fun _ _ _ _ _ _ _ q => le_int q
theorem op_ge : OpR X (compareOp .GtE) (rI0 fun i j => .bl (decide (j ≤ i))) := opB0 fun _ _ _ _ _ _ _ q => ge_int q
def isObj : HO → Bool
  | .lst _ => true
  | .ins _ _ _ => true
  | _ => false
theorem nomark (b : Expr) {op : CmpOp} (h : op ≠ .In := by decide) (h2 : op ≠ .NotIn := by decide) : behindInMarks op b = false := by
  have e1 : (op == CmpOp.In) = false := by cases op <;> first | rfl | exact absurd rfl h
  have e2 : (op == CmpOp.NotIn) = false := by cases op <;> first | rfl | exact absurd rfl h2
  cases b <;> simp [behindInMarks, e1, e2]
theorem pe_cmpR {op : CmpOp} {r : R2} (ho : OpR X (compareOp op) r) (ha : PE X a ta) (hb : PE X b tb) (hm : behindInMarks op b = false) : PE X (.Compare a [op] [b] pos) (tOp r ta tb) := by
  intro pins s σ H Q I h
  exact wpAny_Compare1 (binT ha hb I h fun v u s2 x y H2 I2 rx ry q => ho pins s2 σ H2 x y v u Q I2 rx ry q) hm
def tTest (t : TE) : TT := fun σ H Q => t σ H fun x H' => ∃ k, x = .bl k ∧ Q k H'
theorem pt_cmpR {op : CmpOp} {r : R2} (ho : OpR X (compareOp op) r) (ha : PE X a ta) (hb : PE X b tb) (hm : behindInMarks op b = false) : PT X (.Compare a [op] [b] pos) (tTest (tOp r ta tb)) := by
  intro pins s σ H Q I h
  refine wpAny_isTrue_Compare1 (thn (ha pins s σ H _ I h) fun v s1 ⟨x, H1, I1, r1, q1⟩ => thn (hb pins s1 σ H1 _ I1 q1) fun u s2 ⟨y, H2, I2, r2, q2⟩ =>
    thn (ho pins s2 σ H2 x y v u _ I2 r1 r2 q2) fun c s3 ⟨z, H3, I3, r3, k, e, q3⟩ => ?_) hm
  subst e
  cases r3
  exact wpAny_truthy_bool ⟨H3, I3, q3⟩
def tChain (r r' : R2) (ta tb tc : TE) : TE := fun σ H Q => ta σ H fun x H1 => tb σ H1 fun y H2 => r x y H2 fun z H3 => ∃ k, z = .bl k ∧
  (if k = true then tc σ H3 fun w' H4 => r' y w' H4 Q else Q (.bl false) H3)
def TruV (K : PySem.W.Frag) (x : V) (H : Hp) (k : Bool) : Prop :=
  match x with
  | .non => k = false
  | .bl b => k = b
  | .int i => k = (i != 0)
  | .str y => y.length ≤ sizeLine ∧ k = ((y.length : Int) != 0)
  | .byt y => y.size ≤ sizeLine ∧ k = ((y.size : Int) != 0)
  | .ref p => (∃ xs, SqL K H p xs ∧ k = !xs.isEmpty) ∨ (∃ xs, SqT K H p xs ∧ k = !xs.isEmpty) ∨ ∃ kvs, H p = some (.dK kvs) ∧ k = !kvs.isEmpty
  | _ => False
theorem line63 : (sizeLine : Nat) < 2 ^ 63 := by rw [sizeLine_eq]; decide
theorem op_add_str : OpR X (binaryOp .Add) (fun x y H Q => ∃ i j, x = .str i ∧ y = .str j ∧ i.length + j.length ≤ sizeLine ∧ Q (.str (i ++ j)) H) := by
  intro pins s σ H x y v u Q I rx ry h
  obtain ⟨i, j, rfl, rfl, hz, q⟩ := h
  obtain ⟨t, rfl⟩ := rx
  obtain ⟨t', rfl⟩ := ry
  exact add_str (fun t' tk => ⟨.str (i ++ j), H, I.tok _, ⟨_, rfl⟩, q⟩) hz
def PlainIxT (b : Expr) : Prop := ∀ o i, subscripted b false o i = operate [o, i] (getItem o i)
theorem vals1 {x : V} {us : List Value} (r : Vals [x] us) : ∃ u, us = [u] ∧ RelV x u := by
  cases r with
  | cons r1 r2 => cases r2; exact ⟨_, rfl, r1⟩
theorem vals2 {x y : V} {us : List Value} (r : Vals [x, y] us) : ∃ u w', us = [u, w'] ∧ RelV x u ∧ RelV y w' := by
  cases r with
  | cons r1 r2 =>
    cases r2 with
    | cons r3 r4 => cases r4; exact ⟨_, _, rfl, r1, r3⟩
def LenV (K : PySem.W.Frag) (x : V) (H : Hp) (n : Nat) : Prop :=
  match x with
  | .str y => y.length ≤ sizeLine ∧ n = y.length
  | .byt y => y.size ≤ sizeLine ∧ n = y.size
  | .ref p => (∃ xs, SqL K H p xs ∧ n = xs.length) ∨ ∃ xs, SqT K H p xs ∧ n = xs.length
  | _ => False
theorem call_len : CallR X (.builtin "len") (fun xs H Q => ∃ x n, xs = [x] ∧ LenV X.K x H n ∧ Q (.int n) H) := by
  intro pins s σ H xs us Q I r h
  obtain ⟨x, n, rfl, e, q⟩ := h
  obtain ⟨u, rfl, rx⟩ := vals1 r
  have hl := line63
  have hs : sizeLine = 16777216 := sizeLine_eq
  cases x with
  | str y =>
    obtain ⟨t, rfl⟩ := rx
    obtain ⟨hy, e'⟩ : y.length ≤ sizeLine ∧ n = y.length := e
    subst e'
    exact len_str (by omega) ⟨.int _, H, I.tok _, ⟨_, rfl⟩, q⟩
  | byt y =>
    obtain ⟨t, rfl⟩ := rx
    obtain ⟨hy, e'⟩ : y.size ≤ sizeLine ∧ n = y.size := e
    subst e'
    exact PySem.W.len_bytes (by omega) ⟨.int _, H, I.tok _, ⟨_, rfl⟩, q⟩
  | ref p =>
    cases rx
    have e' : (∃ xs, SqL X.K H p xs ∧ n = xs.length) ∨ ∃ xs, SqT X.K H p xs ∧ n = xs.length := e
    rcases e' with ⟨xs, hx, e'⟩ | ⟨xs, hx, e'⟩
    · subst e'
      obtain ⟨its, r', pl, hz⟩ := I.list hx
      have hlen := r'.length
      exact Calls.call_len_list pl.isList (by simp only [List.size_toArray]; omega) ⟨.int xs.length, H, I.tok _, ⟨_, by simp only [List.size_toArray]; rw [hlen]⟩, q⟩
    · subst e'
      obtain ⟨its, r', pl, hz⟩ := I.tuple hx
      have hlen := r'.length
      exact len_tuple pl (by simp only [List.size_toArray]; omega) ⟨.int xs.length, H, I.tok _, ⟨_, by simp only [List.size_toArray]; rw [hlen]⟩, q⟩
  | _ => exact (show False from e).elim
end
end L2
namespace L2
open PySem PySem.Spec PyProof.Rows
structure ObjM (h : Heap) (x dx C : Addr) (mA : Str → Option Value) : Prop where
  obj : h.get? x = some (PySem.W.instObj C dx)
  ns : h.Ns1 dx mA
  ne : dx ≠ x
theorem lookIn_ns {h : Heap} {dx : Addr} {mA : Str → Option Value} (n : h.Ns1 dx mA) : ∃ od, h.get? dx = some od ∧ ∀ name, PySem.W.lookIn name od = some (mA name) := by
  obtain ⟨o, es, ep, ho, hd, hk, _, hm⟩ := n
  refine ⟨o, ho, fun name => ?_⟩
  have e := hm name
  unfold nsFind findBy at e
  rw [← Array.find?_toList] at e
  unfold PySem.W.lookIn
  rw [hd]
  dsimp only
  split
  · rename_i y q
    rw [q] at e
    exact congrArg some e
  · rename_i q
    rw [q] at e
    have a : es.toList.any (·.refKey) = false := by
      rw [List.any_eq_false]
      intro y hy
      obtain ⟨z, t, hkey⟩ := hk y (Array.mem_toList_iff.mp hy)
      simp [DictEntry.refKey, hkey]
    have a' : ¬ es.toList.any (·.refKey) = true := by rw [a]; exact Bool.false_ne_true
    rw [if_neg a']
    exact congrArg some e
theorem ObjM.look {h : Heap} {x dx C : Addr} {mA : Str → Option Value} (I : ObjM h x dx C mA) : ∃ od, PySem.W.InstAt h x (PySem.W.instObj C dx) C (some od) ∧ ∀ name, PySem.W.lookIn name od = some (mA name) :=
  let ⟨od, ho, hl⟩ := lookIn_ns I.ns
  ⟨od, ⟨I.obj, rfl, rfl, ho⟩, hl⟩
section
variable {prog : Program} {w : World} {A : Around} {E : Value → Shared → Prop} {s : Shared} {K : PySem.W.Frag} {x dx C f : Addr} {mA : Str → Option Value} {name : Str} {v : Value}
theorem get_map {expr : Bool} {Q : Value → Shared → Prop} (X : K.In s.heap) (I : ObjM s.heap x dx C mA) (hg : PySem.W.plainGet K C name = true) (hh : PySem.W.hasDictIn K C = true)
    (ha : PySem.W.findIn K (.ref C) name = some none) (hv : mA name = some v) (hv' : PySem.W.handedIn v = true) (h : Q v { s with toks := s.toks + 1 }) :
    wpAny (model prog w) A (getAttr (.ref x) name expr) Q E s := by
  obtain ⟨od, J, hl⟩ := I.look
  exact PySem.W.get_value X J (PySem.W.plainGet_of hg).1 (PySem.W.findObj_own hh ha rfl (by rw [hl, hv])) hv' h
theorem get_meth {pl : Sem Bool} {Q : Value × List Value → Shared → Prop} (X : K.In s.heap) (I : ObjM s.heap x dx C mA) (hg : PySem.W.plainGet K C name = true)
    (hf : PySem.W.findIn K (.ref C) name = some (some (.ref f))) (ht : PySem.W.isFn K (.ref f) = true) (hv : mA name = none) (h : Q (.ref f, [.ref x]) s) :
    wpAny (model prog w) A (getMethod (.ref x) name pl) Q E s := by
  obtain ⟨od, J, hl⟩ := I.look
  exact PySem.W.method_fn X J (PySem.W.plainGet_of hg).1 (PySem.W.plainGet_of hg).2 hf (beq_iff_eq.mp ht) (by show (PySem.W.lookIn name od).map (·.isSome) = some false; rw [hl, hv]; rfl) h
theorem set_map {ns : List Str} {Q : Unit → Shared → Prop} (X : K.In s.heap) (I : ObjM s.heap x dx C mA)
    (hs : PySem.W.findIn K (.ref C) "__setattr__" = some (some (.builtin "object.__setattr__"))) (hp : PySem.W.plainOver K C = true) (ht : PySem.W.takerIn K C name = some none) (hh : PySem.W.hasDictIn K C = true)
    (hw : PySem.Within mA ns) (hsz : ns.length ≤ sizeLine)
    (h : ∀ h', ObjM h' x dx C (fun y => if y = name then some v else mA y) → Heap.SameBut dx s.heap h' → Q () { s with heap := h', toks := s.toks + 2 }) :
    wpAny (model prog w) A (setAttr (.ref x) name v) Q E s := by
  obtain ⟨od, J, hl⟩ := I.look
  refine PySem.W.set_plain X J hs (PySem.W.osa_open (s := { s with toks := s.toks + 1 }) (r := none) X J hp ht fun b => ?_)
  obtain ⟨cd, hc, hd'⟩ := PySem.W.any_some hh
  have hx : s.heap.get? x = some ⟨.ref C, some dx, .plain, #[]⟩ := I.obj
  refine wpAny_bind (wpAny_pure (wpAny_bind (wpAny_bind (wpAny_loadPart hx (wpAny_bind (PySem.W.Looks.here (s := { s with toks := s.toks + 1 }) (PySem.W.looks_clsIn X hc) ?_))))))
  rw [hd']
  refine wpAny_pure (a := some dx) (wpAny_bind (wpAny_pure (wpAny_bind ?_)))
  refine wpAny_nsSet1 (s := { s with toks := s.toks + 1 }) I.ns fun h' hn2 hs2 => ?_
  obtain ⟨oD, esD, epD, hoD, hdD, hcD⟩ := hn2.count (PySem.Within.cons name v hw)
  refine wpAny_bind (wpAny_lookBehind hoD (by rw [hdD]; exact pastItsLine_dict (Nat.le_trans hcD (by rw [List.length_cons]; omega))) ?_)
  exact wpAny_pure (h _ ⟨(hs2.2 _ (Ne.symm I.ne)).trans I.obj, hn2, I.ne⟩ hs2)
theorem make_map {R : Result → Shared → Prop} {vs : List Value} {kw : List (Str × Value)} (X : K.In s.heap) (hm : PySem.W.makesIn K C = true)
    (hi : PySem.W.findIn K (.ref C) "__init__" = some (some (.ref f))) (hf : PySem.W.typeIn K (.ref f) = some (.type "function"))
    (h : codeAny (model prog w) (A.under (.builtin "type.__call__" ⟨.ref C :: vs, kw⟩)) (.call (.ref f) ⟨.ref (s.heap.objs.size + 1) :: vs, kw⟩) (PySem.W.InitBack (s.heap.objs.size + 1) R)
      { s with heap := (s.heap.push PySem.W.emptyDict).push (PySem.W.instObj C s.heap.objs.size) }) :
    codeAny (model prog w) A (.call (.ref C) ⟨vs, kw⟩) R s := by
  obtain ⟨hh, g, d, t, os⟩ := s
  exact PySem.W.make_core (PySem.W.makes_of X hm) (PySem.W.looks_findIn X hi) (fun self => PySem.W.bind_fn X self hf) (.inl rfl) h
end
def putF (f : Str) (v : V) : List (Str × V) → List (Str × V)
  | [] => [(f, v)]
  | (g, x) :: r => if g = f then (g, v) :: r else (g, x) :: putF f v r
theorem lookup_putF (f g : Str) (v : V) : ∀ fs : List (Str × V), (putF f v fs).lookup g = if g = f then some v else fs.lookup g
  | [] => by
    show List.lookup g [(f, v)] = _
    by_cases h : g = f
    · have hb : (g == f) = true := beq_iff_eq.mpr h
      simp only [List.lookup, hb, if_pos h]
    · have hb : (g == f) = false := beq_eq_false_iff_ne.mpr h
      simp only [List.lookup, hb, if_neg h]
  | (k, x) :: r => by
    have ih := lookup_putF f g v r
    rw [show putF f v ((k, x) :: r) = (if k = f then (k, v) :: r else (k, x) :: putF f v r) from rfl]
    by_cases hk : k = f
    · rw [if_pos hk]
      by_cases h : g = k
      · have hb : (g == k) = true := beq_iff_eq.mpr h
        simp only [List.lookup, hb, if_pos (h.trans hk)]
      · have hb : (g == k) = false := beq_eq_false_iff_ne.mpr h
        simp only [List.lookup, hb, if_neg (fun e : g = f => h (e.trans hk.symm))]
    · rw [if_neg hk]
      by_cases h : g = k
      · have hb : (g == k) = true := beq_iff_eq.mpr h
        simp only [List.lookup, hb, if_neg (fun e : g = f => hk (h.symm.trans e))]
      · have hb : (g == k) = false := beq_eq_false_iff_ne.mpr h
        simp only [List.lookup, hb]
        exact ih
theorem keys_putF (f : Str) (v : V) : ∀ fs : List (Str × V), f ∈ (putF f v fs).map (·.1) ∧ ∀ g, g ∈ fs.map (·.1) → g ∈ (putF f v fs).map (·.1)
  | [] => ⟨by simp [putF], fun g h => by simp at h⟩
  | (k, x) :: r => by
    obtain ⟨i1, i2⟩ := keys_putF f v r
    rw [show putF f v ((k, x) :: r) = (if k = f then (k, v) :: r else (k, x) :: putF f v r) from rfl]
    by_cases hk : k = f
    · rw [if_pos hk]
      subst hk
      exact ⟨by simp, fun g h => by simpa using h⟩
    · rw [if_neg hk]
      refine ⟨?_, fun g h => ?_⟩
      · rw [List.map_cons]
        exact List.mem_cons_of_mem _ i1
      · rw [List.map_cons] at h ⊢
        rcases List.mem_cons.mp h with e | e
        · exact List.mem_cons.mpr (.inl e)
        · exact List.mem_cons_of_mem _ (i2 g e)
theorem length_putF (f : Str) (v : V) : ∀ fs : List (Str × V), (putF f v fs).length ≤ fs.length + 1
  | [] => by simp [putF]
  | (k, x) :: r => by
    have ih := length_putF f v r
    rw [show putF f v ((k, x) :: r) = (if k = f then (k, v) :: r else (k, x) :: putF f v r) from rfl]
    by_cases hk : k = f
    · rw [if_pos hk, List.length_cons, List.length_cons]; omega
    · rw [if_neg hk, List.length_cons, List.length_cons]; omega
theorem RelO.some_of {v : V} {o : Option Value} (r : RelO (some v) o) : ∃ u, o = some u ∧ RelV v u := by
  cases o with
  | none => exact (show False from r).elim
  | some u => exact ⟨u, rfl, r⟩
theorem RelO.none_of {o : Option Value} (r : RelO none o) : o = none := by
  cases o with
  | none => rfl
  | some u => exact (show False from r).elim
theorem handed_of {v : V} {u : Value} (r : RelV v u) : PySem.W.handedIn u = true := by
  cases v with
  | non => cases (show u = Value.none from r); rfl
  | bl b => cases (show u = Value.bool b from r); rfl
  | int i => obtain ⟨t, e⟩ := (show ∃ t, u = Value.int i t from r); cases e; rfl
  | str x => obtain ⟨t, e⟩ := (show ∃ t, u = Value.str x t from r); cases e; rfl
  | byt b => obtain ⟨t, e⟩ := (show ∃ t, u = Value.bytes b t from r); cases e; rfl
  | flt b => obtain ⟨t, e⟩ := (show ∃ t, u = Value.float b t from r); cases e; rfl
  | ref a => cases (show u = Value.ref a from r); rfl
  | ty n => cases (show u = Value.type n from r); rfl
section
variable {P : Program} {w : World} {H H' : Hp} {h h' : Heap} {a C dx : Addr} {fs fs' : List (Str × V)}
theorem ins_get (hok : HOk P w H h) (e : H a = some (.ins C dx fs)) : ∃ mA, ObjM h a dx C mA ∧ (∀ f, RelO (fs.lookup f) (mA f)) ∧ PySem.Within mA (fs.map (·.1)) ∧ fs.length ≤ 1000 ∧ H dx = some (.own a) := by
  obtain ⟨d, z, ne, ob, mA, n, r, q⟩ := (show ObjOk P w H h a (.ins C dx fs) from hok a _ e)
  exact ⟨mA, ⟨ob, n, ne⟩, r, q, z, d⟩
end
structure Cls (K : PySem.W.Frag) (C : Addr) : Prop where
  pg : PySem.W.plainGet K C Str.empty = true
  hd : PySem.W.hasDictIn K C = true
  po : PySem.W.plainOver K C = true
  sa : PySem.W.findIn K (.ref C) "__setattr__" = some (some (.builtin "object.__setattr__"))
theorem Cls.get {K : PySem.W.Frag} {C : Addr} (c : Cls K C) (f : Str) : PySem.W.plainGet K C f = true := c.pg
def NoAttr (K : PySem.W.Frag) (C : Addr) (f : Str) : Prop := PySem.W.findIn K (.ref C) f = some none
theorem NoAttr.taker {K : PySem.W.Frag} {C : Addr} {f : Str} (n : NoAttr K C f) : PySem.W.takerIn K C f = some none := by
  unfold PySem.W.takerIn
  rw [show PySem.W.findIn K (.ref C) f = some none from n]
  rfl
structure Con (K : PySem.W.Frag) (C : Addr) (f : Str) (v : V) (u : Value) : Prop where
  at_ : PySem.W.findIn K (.ref C) f = some (some u)
  rel : RelV v u
  get : PySem.W.specialIn K u "__get__" = some none
  cp : PySem.W.copiedNames.contains f = false
structure Meth (K : PySem.W.Frag) (C : Addr) (m : Str) (f : Addr) : Prop where
  at_ : PySem.W.findIn K (.ref C) m = some (some (.ref f))
  fn : PySem.W.isFn K (.ref f) = true
  kp : PySem.W.keepIn K (.ref f) = true
section
variable {X : Cx} {pins : List (Addr × Obj)} {σ : St} {H : Hp} {s : Shared} {a C dx : Addr} {fs : List (Str × V)} {f : Str} {v : V} {A : Around} {E : Value → Shared → Prop}
theorem getattr_ok {b : Bool} {Q : Value → Shared → Prop} (I : Inv X pins σ H s) (e : H a = some (.ins C dx fs)) (c : Cls X.K C) (n : NoAttr X.K C f) (l : fs.lookup f = some v)
    (h : ∀ u s', Inv X pins σ H s' → RelV v u → Q u s') : wpAny (model X.prog X.w) A (getAttr (.ref a) f b) Q E s := by
  obtain ⟨mA, O, r, _, _, _⟩ := ins_get I.hok e
  obtain ⟨u, hu, ru⟩ := RelO.some_of (v := v) (o := mA f) (by rw [← l]; exact r f)
  exact get_map I.kIn O (c.get f) c.hd n hu (handed_of ru) (h u _ (I.tok _) ru)
theorem getmeth_ok {m : Str} {g : Addr} {pl : Sem Bool} {Q : Value × List Value → Shared → Prop} (I : Inv X pins σ H s) (e : H a = some (.ins C dx fs)) (c : Cls X.K C) (k : Meth X.K C m g) (l : fs.lookup m = none)
    (h : Q (.ref g, [.ref a]) s) : wpAny (model X.prog X.w) A (getMethod (.ref a) m pl) Q E s := by
  obtain ⟨mA, O, r, _, _, _⟩ := ins_get I.hok e
  have hn : mA m = none := RelO.none_of (by rw [← l]; exact r m)
  exact get_meth I.kIn O (c.get m) k.at_ k.fn hn h
theorem setattr_ok {y : V} {u : Value} {Q : Unit → Shared → Prop} (I : Inv X pins σ H s) (e : H a = some (.ins C dx fs)) (c : Cls X.K C) (n : NoAttr X.K C f) (hl : fs.length < 1000) (ry : RelV y u)
    (h : ∀ s', Inv X pins σ (upd H a (.ins C dx (putF f y fs))) s' → Q () s') : wpAny (model X.prog X.w) A (setAttr (.ref a) f u) Q E s := by
  obtain ⟨mA, O, r, wi, _, ho⟩ := ins_get I.hok e
  have hz : (fs.map (·.1)).length ≤ sizeLine := by rw [List.length_map, sizeLine_eq]; omega
  refine set_map I.kIn O c.sa c.po n.taker c.hd wi hz fun h' O' sb => h _ ?_
  have hd : ∃ o, h'.get? dx = some o := let ⟨o, _, _, e', _⟩ := O'.ns; ⟨o, e'⟩
  refine I.write (x := a) (e := dx) (by rw [e]; exact True.intro) (.inr ho) (fun b q hb z => (sb.2 b hb).trans z) hd ?_
  refine ⟨by rw [upd_ne O.ne]; exact ho, ?_, O.ne, O'.obj, _, O'.ns, fun g => ?_, fun g hg => ?_⟩
  · have := length_putF f y fs; omega
  · show RelO ((putF f y fs).lookup g) (if g = f then some u else mA g)
    rw [lookup_putF]
    by_cases q : g = f
    · rw [if_pos q, if_pos q]; exact ry
    · rw [if_neg q, if_neg q]; exact r g
  · by_cases q : g = f
    · rw [q]; exact (keys_putF f y fs).1
    · refine (keys_putF f y fs).2 g (wi g fun z => hg ?_)
      show (if g = f then some u else mA g) = none
      rw [if_neg q]; exact z
theorem Inv.made (I : Inv X pins σ H s) : Inv X pins σ (upd (upd H s.heap.objs.size (.own (s.heap.objs.size + 1))) (s.heap.objs.size + 1) (.ins C s.heap.objs.size []))
    { s with heap := (s.heap.push PySem.W.emptyDict).push (PySem.W.instObj C s.heap.objs.size) } := by
  have e1 : (s.heap.push PySem.W.emptyDict).get? s.heap.objs.size = some PySem.W.emptyDict := Heap.get?_push_size s.heap rfl
  have e2 : ((s.heap.push PySem.W.emptyDict).push (PySem.W.instObj C s.heap.objs.size)).get? (s.heap.objs.size + 1) = some (PySem.W.instObj C s.heap.objs.size) := by
    have := Heap.get?_push_size (s.heap.push PySem.W.emptyDict) (o := PySem.W.instObj C s.heap.objs.size) rfl
    rwa [Heap.size_push] at this
  have e3 : (s.heap.push PySem.W.emptyDict).Ns s.heap.objs.size (fun _ => none) := ⟨PySem.W.emptyDict, #[], _, e1, rfl, (fun e he => absurd he (by simp)), fun _ => rfl⟩
  have I1 := I.laid (a := s.heap.objs.size) (o := .own (s.heap.objs.size + 1)) (h' := s.heap.push PySem.W.emptyDict) (t' := s.toks) (fun b u q => Heap.get?_push_of_some _ q) (Nat.le_refl _) ⟨_, e1⟩
  refine I1.laid (a := s.heap.objs.size + 1) (o := .ins C s.heap.objs.size []) (t' := s.toks) (fun b u q => Heap.get?_push_of_some _ q) (Nat.le_of_eq (Heap.size_push _ _)) ?_
  have ne : s.heap.objs.size ≠ s.heap.objs.size + 1 := Nat.ne_of_lt (Nat.lt_succ_self _)
  refine ⟨by rw [upd_ne ne, upd_same], Nat.zero_le _, ne, e2, fun _ => none, (Heap.Ns1.of_empty e3).at fun o q => Heap.get?_push_of_some _ q, fun _ => True.intro, fun y hy => absurd rfl hy⟩
theorem attr_of {prog : Program} {w : World} {env : Env} {e : Expr} {f : Str} {pos : Pos} {s : Shared} {Q : Value → Shared → Prop} (hb : attributeBase e f env (eval e env) = eval e env)
    (h : wpAny (model prog w) A (eval e env) (fun o s₁ => wpAny (model prog w) A (getAttr o f true) Q E s₁) E s) : wpAny (model prog w) A (eval (.Attribute e f pos) env) Q E s :=
  Attribute_any_ h (by rw [arm_eval_Attribute, hb])
end
def tFld (K : PySem.W.Frag) (ta : TE) (f : Str) : TE := fun σ H Q => ta σ H fun x H1 => ∃ a C dx fs v, x = .ref a ∧ H1 a = some (.ins C dx fs) ∧ Cls K C ∧ NoAttr K C f ∧ fs.lookup f = some v ∧ Q v H1
def tCon (K : PySem.W.Frag) (ta : TE) (f : Str) : TE := fun σ H Q => ta σ H fun x H1 => ∃ a C dx fs v u, x = .ref a ∧ H1 a = some (.ins C dx fs) ∧ Cls K C ∧ Con K C f v u ∧ fs.lookup f = none ∧ Q v H1
def sFld (K : PySem.W.Frag) (ta tv : TE) (f : Str) : TS := fun D σ H => tv σ H fun y H1 => ta σ H1 fun x H2 => ∃ a C dx fs, x = .ref a ∧ H2 a = some (.ins C dx fs) ∧ Cls K C ∧ NoAttr K C f ∧ fs.length < 1000 ∧
  D.nx σ (upd H2 a (.ins C dx (putF f y fs)))
def InOp (X : Cx) (op : Operator) (rd : V → V → Hp → VK → Prop) : Prop :=
  ∀ (pins : List (Addr × Obj)) (s : Shared) (σ : St) (H : Hp) (x y : V) (u v : Value) (Q : VK), Inv X pins σ H s → RelV x u → RelV y v → rd x y H Q → wpAny (model X.prog X.w) X.A (inplaceOp op u v) (EP X pins σ Q) X.xe s
def sFldAug (K : PySem.W.Frag) (ta tv : TE) (rd : V → V → Hp → VK → Prop) (f : Str) : TS := fun D σ H => ta σ H fun x H1 => ∃ a C dx fs v, x = .ref a ∧ H1 a = some (.ins C dx fs) ∧ Cls K C ∧ NoAttr K C f ∧ fs.lookup f = some v ∧
  tv σ H1 fun y H2 => rd v y H2 fun z H3 => ∃ dx' fs', H3 a = some (.ins C dx' fs') ∧ fs'.length < 1000 ∧ D.nx σ (upd H3 a (.ins C dx' (putF f z fs')))
section
variable {X : Cx} {o e value : Expr} {f : Str} {pos pos' tpos : Pos} {ta tv : TE}
theorem pe_fld (he : PE X e ta) (hb : attributeBase e f X.env (eval e X.env) = eval e X.env) : PE X (.Attribute e f pos) (tFld X.K ta f) := by
  intro pins s σ H Q I h
  refine attr_of hb (thn (he pins s σ H _ I h) fun u s1 ⟨x, H1, I1, rx, a, C, dx, fs, v, ex, ea, c, n, l, q⟩ => ?_)
  subst ex
  obtain rfl : u = Value.ref a := rx
  exact getattr_ok I1 ea c n l fun u' s2 I2 ru => ⟨v, H1, I2, ru, q⟩
theorem ps_fld (ha : PE X o ta) (hv : PE X value tv) (hs : swapsWith value (some (.Attribute o f pos')) pos.line X.env = pure false) : PS X (.Assign [.Attribute o f pos'] value pos) (sFld X.K ta tv f) := by
  intro pins s σ H D I h
  refine plainObj_wpAny_Assign_Attribute (thn (hv pins s σ H _ I h) fun u s1 ⟨y, H1, I1, ry, q⟩ => thn (ha pins s1 σ H1 _ I1 q) fun ov s2 ⟨x, H2, I2, rx, a, C, dx, fs, ex, ea, c, n, l, q2⟩ => ?_) hs
  subst ex
  obtain rfl : ov = Value.ref a := rx
  exact setattr_ok I2 ea c n l ry fun s3 I3 => ⟨σ, _, I3, q2⟩
def rAdd : V → V → Hp → VK → Prop := fun x y H Q => ∃ i j, x = .int i ∧ y = .int j ∧ Q (.int (i + j)) H
def rSub : V → V → Hp → VK → Prop := fun x y H Q => ∃ i j, x = .int i ∧ y = .int j ∧ Q (.int (i - j)) H
end
section
variable {X : Cx} {pins : List (Addr × Obj)} {σ : St} {H : Hp} {s : Shared} {A : Around} {E : Value → Shared → Prop} {Q : Value → Shared → Prop} {c : Value} {b : Bool}
inductive TyOf (K : PySem.W.Frag) (H : Hp) : V → Value → Prop where
  | non : TyOf K H .non (.type "NoneType")
  | bl (x : Bool) : TyOf K H (.bl x) (.type "bool")
  | int (i : Int) : TyOf K H (.int i) (.type "int")
  | str (x : Str) : TyOf K H (.str x) (.type "str")
  | flt (x : UInt64) : TyOf K H (.flt x) (.type "float")
  | lst {a : Addr} {xs : List V} (e : H a = some (.lst xs)) : TyOf K H (.ref a) (.type "list")
  | frz {a : Addr} {o : Obj} {xs : List V} (e : H a = some (.frz o (.lst xs))) : TyOf K H (.ref a) (.type "list")
  | tup {a : Addr} {xs : List V} (e : H a = some (.tup xs)) : TyOf K H (.ref a) (.type "tuple")
  | dK {a : Addr} {kvs : List (Key × V)} (e : H a = some (.dK kvs)) : TyOf K H (.ref a) (.type "dict")
  | dT {a : Addr} {kvs : List (List Key × V)} (e : H a = some (.dT kvs)) : TyOf K H (.ref a) (.type "dict")
  | ins {a C dx : Addr} {fs : List (Str × V)} (e : H a = some (.ins C dx fs)) (cl : Cls K C) (ha : PySem.W.findIn K (.ref C) "__class__" = some (some (.builtin "object.__class__")))
      (hn : PySem.W.specialIn K (.builtin "object.__class__") "__get__" = some (some (.builtin "getset_descriptor.__get__"))) (htk : PySem.W.takesIn K (.builtin "object.__class__") = some true)
      (hm : PySem.W.mroIn K C (.type "object") = some true) : TyOf K H (.ref a) (.ref C)
end
end L2
namespace L2
open PySem PySem.Spec PyProof.Rows
structure Room (k : Nat) (A : Around) : Prop where
  hd : A.handled = none
  dp : A.depth + 3 * k + 5 < recursionLimit
  un : A.units + 16 * k + 200 < cLine
theorem Room.mono {j k : Nat} {A : Around} (r : Room k A) (h : j ≤ k) : Room j A := ⟨r.hd, by have := r.dp; omega, by have := r.un; omega⟩
theorem Room.deeper {k : Nat} {A : Around} (r : Room (k + 1) A) (env : Env) : Room k (A.deeper env) :=
  ⟨r.hd, by have := r.dp; show A.depth + 1 + 3 * k + 5 < _; omega, by have := r.un; show A.units + 3 + 16 * k + 200 < _; omega⟩
theorem Room.in1 {k : Nat} {A : Around} (r : Room (k + 1) A) : Room k A.in1 :=
  ⟨r.hd, by have := r.dp; show A.depth + 3 * k + 5 < _; omega, by have := r.un; show A.units + 1 + 16 * k + 200 < _; omega⟩
theorem make_depth {A : Around} {C : Addr} {us : List Value} {kw : List (Str × Value)} : (A.under (.builtin "type.__call__" ⟨.ref C :: us, kw⟩)).depth = A.depth + 1 := by
  first | rfl | simp [Around.under, Code.weight, Code.isCreation, Code.isGuard, Code.isCaller, Code.frames, Code.isFrame, guardIds]
theorem make_units {A : Around} {C : Addr} {us : List Value} {kw : List (Str × Value)} : (A.under (.builtin "type.__call__" ⟨.ref C :: us, kw⟩)).units = A.units + 1 := by
  first | rfl | simp [Around.under, Code.cUnits, Code.frames, Code.isFrame]
theorem Room.make {k : Nat} {A : Around} (r : Room (k + 1) A) (C : Addr) (us : List Value) (kw : List (Str × Value)) : Room k (A.under (.builtin "type.__call__" ⟨.ref C :: us, kw⟩)) :=
  ⟨r.hd, by have := r.dp; rw [make_depth]; omega, by have := r.un; rw [make_units]; omega⟩
theorem Room.depth {k : Nat} {A : Around} (r : Room k A) : A.depth < recursionLimit := by have := r.dp; omega
theorem Room.units {k : Nat} {A : Around} (r : Room k A) : A.units + 64 < cLine := by have := r.un; omega
def tNil : TA := fun _ H Q => Q [] H
def tCons (ta : TE) (tr : TA) : TA := fun σ H Q => ta σ H fun x H1 => tr σ H1 fun xs H2 => Q (x :: xs) H2
section
variable {X : Cx} {e : Expr} {es : List Expr} {te : TE} {t : TA} {pos : Pos}
theorem pa_nil : PA X [] tNil := fun _ _ _ _ H Q I h => Calls.spliced_nil ⟨[], H, I, .nil, h⟩
theorem pa_cons (ha : PE X e te) (hr : PA X es t) (hs : starEach (e :: es) X.env = (false, eval e X.env) :: starEach es X.env := by rfl) : PA X (e :: es) (tCons te t) := by
  intro pos pins s σ H Q I h
  rw [hs]
  show wpAny _ _ (spliced ((false, eval e X.env) :: backTo pos (starEach es X.env))) _ _ s
  refine Calls.spliced_cons (thn (ha pins s σ H _ I h) fun u s1 ⟨x, H1, I1, r1, q1⟩ => ?_)
  exact thn (hr pos pins s1 σ H1 _ I1 q1) fun us s2 ⟨xs, H2, I2, r2, q2⟩ => ⟨x :: xs, H2, I2, .cons r1 r2, q2⟩
def tTup (t : TA) : TE := fun σ H Q => t σ H fun xs H1 => xs.length ≤ sizeLine ∧ ∀ p, H1 p = none → Q (.ref p) (upd H1 p (.tup xs))
def tLst (t : TA) : TE := fun σ H Q => t σ H fun xs H1 => xs.length ≤ sizeLine ∧ ∀ p, H1 p = none → Q (.ref p) (upd H1 p (.lst xs))
end
abbrev Sp := List V → Hp → VK → XK → Prop
abbrev CXT := List Env → Hp → Shared → XK → Value → Shared → Prop
structure Env0 (P : Program) (w : World) (K : PySem.W.Frag) (mg : Str → Option Value) (base : Heap) (A : Around) (outer : List Env) (s : Shared) (H : Hp) : Prop where
  frames : A.frames = some outer
  mod : Mod K mg base
  bs : ∀ b o, base.get? b = some o → s.heap.get? b = some o ∧ H b = none
  bsz : base.objs.size ≤ s.heap.objs.size
  funs : s.heap.FunFrames base outer
  frf : ∀ b ∈ frs outer, H b = none
  hok : HOk P w H s.heap
  bare : AllBare s.gens
def CE (outer : List Env) (P : Program) (w : World) (H : Hp) (s : Shared) (Q : VK) (u : Value) (s' : Shared) : Prop :=
  ∃ v H', s'.os = s.os ∧ AllBare s'.gens ∧ Un (frs outer) [] H H' s.heap s'.heap ∧ HOk P w H' s'.heap ∧ RelV v u ∧ Q v H'
def CR (CX : CXT) (outer : List Env) (P : Program) (w : World) (H : Hp) (s : Shared) (Q : VK) (E : XK) (r : Result) (s' : Shared) : Prop :=
  match r with
  | .ok (.ret u) => CE outer P w H s Q u s'
  | .ok _ => False
  | .error e => CX outer H s E e s'
structure FnOk (P : Program) (w : World) (K : PySem.W.Frag) (mg : Str → Option Value) (base : Heap) (CX : CXT) (k : Nat) (f : Addr) (fd : FuncData) (ps : List Str) (sp : Sp) : Prop where
  len : ∀ vs H Q E, sp vs H Q E → vs.length = ps.length
  run : ∀ (A : Around) (outer : List Env) (s : Shared) (H : Hp) (args : Args) (us : List Value) (vs : List V) (Q : VK) (E : XK), Room k A → Env0 P w K mg base A outer s H → BindsTo s fd args (ps.zip us) → Vals vs us → sp vs H Q E →
    codeAny (model P w) A (.call (.ref f) args) (CR CX outer P w H s Q E) s
theorem FnOk.mono {P : Program} {w : World} {K : PySem.W.Frag} {mg : Str → Option Value} {base : Heap} {CX : CXT} {j k : Nat} {f : Addr} {fd : FuncData} {ps : List Str} {sp : Sp} (F : FnOk P w K mg base CX j f fd ps sp) (h : j ≤ k) :
    FnOk P w K mg base CX k f fd ps sp := ⟨F.len, fun A outer s H args us vs Q E hr => F.run A outer s H args us vs Q E (hr.mono h)⟩
theorem Env0.make {P : Program} {w : World} {K : PySem.W.Frag} {mg : Str → Option Value} {base : Heap} {A : Around} {outer : List Env} {s : Shared} {H : Hp} (e : Env0 P w K mg base A outer s H) (C : Addr) (us : List Value) (kw : List (Str × Value)) :
    Env0 P w K mg base (A.under (.builtin "type.__call__" ⟨.ref C :: us, kw⟩)) outer s H := ⟨by first | exact e.frames | (simpa [Around.under, Code.envs, Code.isFrame, pushEnvs] using e.frames), e.mod, e.bs, e.bsz, e.funs, e.frf, e.hok, e.bare⟩
theorem Env0.in1 {P : Program} {w : World} {K : PySem.W.Frag} {mg : Str → Option Value} {base : Heap} {A : Around} {outer : List Env} {s : Shared} {H : Hp} (e : Env0 P w K mg base A outer s H) :
    Env0 P w K mg base A.in1 outer s H := ⟨e.frames, e.mod, e.bs, e.bsz, e.funs, e.frf, e.hok, e.bare⟩
section
variable {X : Cx} {pins : List (Addr × Obj)} {σ : St} {H : Hp} {s s' : Shared}
theorem Inv.env0 (I : Inv X pins σ H s) : Env0 X.prog X.w X.K X.mg X.base X.A X.stack s H :=
  ⟨I.ok.frames, I.ok.mod, I.bs, Nat.le_trans I.ok.bsz I.sz, I.stack, I.stkFree, I.hok, I.bare⟩
theorem Inv.after {Q : VK} {u : Value} (I : Inv X pins σ H s) (h : CE X.stack X.prog X.w H s Q u s') : EP X pins σ Q u s' := by
  obtain ⟨v, H', os, bare, un, hok, r, q⟩ := h
  obtain ⟨hh, g, d, t, os'⟩ := s'
  obtain rfl : os' = s.os := os
  exact ⟨v, H', I.call (h' := hh) (g' := g) (d' := d) (t' := t) (ch := []) un hok bare (fun b z => absurd z (by simp)), r, q⟩
end
def tCall (sp : Sp) (dvs : List V) (E : XK) (t : TA) : TE := fun σ H Q => t σ H fun vs H1 => sp (vs ++ dvs) H1 Q E
def tMeth (C : Addr) (m : Str) (sp : Sp) (dvs : List V) (E : XK) (ta : TE) (t : TA) : TE := fun σ H Q => ta σ H fun x H1 => ∃ a dx fs, x = .ref a ∧ H1 a = some (.ins C dx fs) ∧ fs.lookup m = none ∧
  t σ H1 fun vs H2 => sp (x :: (vs ++ dvs)) H2 Q E
def tMake (C : Addr) (sp : Sp) (dvs : List V) (E : XK) (t : TA) : TE := fun σ H Q => t σ H fun vs H1 => ∀ x dx, H1 x = none → H1 dx = none → dx ≠ x →
  sp (.ref x :: (vs ++ dvs)) (upd (upd H1 dx (.own x)) x (.ins C dx [])) (fun v H2 => v = .non ∧ Q (.ref x) H2) E
def Binds (K : PySem.W.Frag) (fd : FuncData) (ps : List Str) (ds : List Value) : Prop :=
  ∀ (s : Shared) (us : List Value), K.In s.heap → (us ++ ds).length = ps.length → BindsTo s fd ⟨us, []⟩ (ps.zip (us ++ ds))
theorem Binds.all {K : PySem.W.Frag} {fd : FuncData} {ps : List Str} (h : ∀ us : List Value, us.length = ps.length → bindArgs fd ⟨us, []⟩ = pure (ps.zip us)) : Binds K fd ps [] := fun s us _ hl => by
  rw [List.append_nil] at hl ⊢
  exact .of_eq (h us hl)
def Passes (CX : CXT) (X : Cx) (E : XK) : Prop := ∀ (pins : List (Addr × Obj)) (σ : St) (H : Hp) (s : Shared) (e : Value) (s' : Shared), Inv X pins σ H s → CX X.stack H s E e s' → X.xe e s'
section
variable {X : Cx} {CX : CXT} {k : Nat} {f C : Addr} {fd : FuncData} {ps : List Str} {sp : Sp} {dvs : List V} {ds : List Value} {E : XK} {x m : Str} {p pos apos : Pos} {e o : Expr} {es : List Expr} {ta : TE} {t : TA}
theorem run_fn {pins : List (Addr × Obj)} {σ : St} {H : Hp} {s : Shared} {Q : VK} {us : List Value} {vs : List V} (F : FnOk X.prog X.w X.K X.mg X.base CX k f fd ps sp) (hr : Room k X.A) (hb : Binds X.K fd ps ds) (hd : Vals dvs ds) (hx : Passes CX X E)
    (I : Inv X pins σ H s) (r : Vals vs us) (h : sp (vs ++ dvs) H Q E) : wpAny (model X.prog X.w) X.A (call (.ref f) us) (EP X pins σ Q) X.xe s := by
  have r2 : Vals (vs ++ dvs) (us ++ ds) := r.append hd
  have hl : (us ++ ds).length = ps.length := by rw [← r2.length]; exact F.len _ _ _ _ h
  refine wpAny_call (codeAny_mono (F.run X.A X.stack s H ⟨us, []⟩ (us ++ ds) (vs ++ dvs) Q E hr I.env0 (hb s us I.kIn hl) r2 h) fun r s' hq => ?_)
  cases r with
  | error e => exact hx pins σ H s e s' I hq
  | ok fl =>
    cases fl with
    | ret u => exact I.after hq
    | next => exact False.elim hq
    | brk => exact False.elim hq
    | cont => exact False.elim hq
theorem pe_call (F : FnOk X.prog X.w X.K X.mg X.base CX k f fd ps sp) (hr : Room k X.A) (hg : Gl X x) (hm : X.mg x = some (.ref f)) (hk : PySem.W.keepIn X.K (.ref f) = true) (hb : Binds X.K fd ps ds) (hd : Vals dvs ds) (hx : Passes CX X E)
    (ha : PA X (e :: es) t) (hdb : (x == ("__debug__" : Str)) = false := by decide) (he : starEach (e :: es) X.env = (false, eval e X.env) :: starEach es X.env := by rfl) (hpl : (backTo pos (starEach es X.env)).any (·.1) = false := by rfl) :
    PE X (.Call (.Name x p) (e :: es) [] pos) (tCall sp dvs E t) := by
  intro pins s σ H Q I h
  refine wpAny_Call_Name_kw (ld_glob I hg hm ?_ hdb)
  refine PySem.W.callWith_K (h₀ := X.base) I.ok.mod.kin hk (thn (ha pos pins s σ H _ I h) fun us s1 ⟨vs, H1, I1, r, q⟩ => ⟨I1.kIn, ?_⟩) he hpl
  exact run_fn F hr hb hd hx I1 r q
theorem pe_meth {pl : Sem Bool} (he : PE X o ta) (c : Cls X.K C) (hm : Meth X.K C m f) (F : FnOk X.prog X.w X.K X.mg X.base CX k f fd ps sp) (hr : Room k X.A) (hb : Binds X.K fd ps ds) (hd : Vals dvs ds) (hx : Passes CX X E) (ha : PA X (e :: es) t)
    (hst : starEach (e :: es) X.env = (false, eval e X.env) :: starEach es X.env := by rfl) (hpl : (backTo pos (starEach es X.env)).any (·.1) = false := by rfl)
    (ht : eval (.Call (.Attribute o m apos) (e :: es) [] pos) X.env = (do
      let ov ← eval o X.env
      standAt apos.atName
      let (f, first) ← holding [ov] (getMethod ov m pl)
      callWith pos f first (backTo pos (starEach (e :: es) X.env)) (backToKw pos (keywordEach [] X.env))) := by rfl) :
    PE X (.Call (.Attribute o m apos) (e :: es) [] pos) (tMeth C m sp dvs E ta t) := by
  intro pins s σ H Q I h
  refine PySem.W.methodCall_KW (pl := pl) (thn (he pins s σ H _ I h) fun u s1 ⟨x, H1, I1, rx, a, dx, fs, ex, ea, l, q⟩ => ?_) ht
  subst ex
  obtain rfl : u = Value.ref a := rx
  refine getmeth_ok I1 ea c hm l ?_
  refine PySem.W.callWith_K (first := [.ref a]) (h₀ := X.base) I.ok.mod.kin hm.kp (thn (ha pos pins s1 σ H1 _ I1 q) fun us s2 ⟨vs, H2, I2, r, q2⟩ => ⟨I2.kIn, ?_⟩) hst hpl
  exact run_fn (us := .ref a :: us) (vs := .ref a :: vs) F hr hb hd hx I2 (.cons rfl r) q2
theorem pe_meth0 {pl : Sem Bool} (he : PE X o ta) (c : Cls X.K C) (hm : Meth X.K C m f) (F : FnOk X.prog X.w X.K X.mg X.base CX k f fd ps sp) (hr : Room k X.A) (hb : Binds X.K fd ps ds) (hd : Vals dvs ds) (hx : Passes CX X E)
    (ht : eval (.Call (.Attribute o m apos) [] [] pos) X.env = (do
      let ov ← eval o X.env
      standAt apos.atName
      let (f, first) ← holding [ov] (getMethod ov m pl)
      callWith pos f first (backTo pos (starEach [] X.env)) (backToKw pos (keywordEach [] X.env))) := by rfl) :
    PE X (.Call (.Attribute o m apos) [] [] pos) (tMeth C m sp dvs E ta tNil) := by
  intro pins s σ H Q I h
  refine PySem.W.methodCall_KW (pl := pl) (thn (he pins s σ H _ I h) fun u s1 ⟨x, H1, I1, rx, a, dx, fs, ex, ea, l, q⟩ => ?_) ht
  subst ex
  obtain rfl : u = Value.ref a := rx
  refine getmeth_ok I1 ea c hm l ?_
  exact PySem.W.callWith_K0 (first := [.ref a]) I1.kIn hm.kp (run_fn (us := [.ref a]) (vs := [.ref a]) F hr hb hd hx I1 (.cons rfl .nil) q)
structure Mk (K : PySem.W.Frag) (C f : Addr) : Prop where
  makes : PySem.W.makesIn K C = true
  init : PySem.W.findIn K (.ref C) "__init__" = some (some (.ref f))
  fn : PySem.W.isFn K (.ref f) = true
  kp : PySem.W.keepIn K (.ref C) = true
theorem run_make {pins : List (Addr × Obj)} {σ : St} {H : Hp} {s : Shared} {Q : VK} {us : List Value} {vs : List V} (M : Mk X.K C f) (F : FnOk X.prog X.w X.K X.mg X.base CX k f fd ps sp) (hr : Room (k + 1) X.A) (hb : Binds X.K fd ps ds) (hd : Vals dvs ds)
    (hx : Passes CX X E) (I : Inv X pins σ H s) (r : Vals vs us)
    (h : ∀ x dx, H x = none → H dx = none → dx ≠ x → sp (.ref x :: (vs ++ dvs)) (upd (upd H dx (.own x)) x (.ins C dx [])) (fun v H2 => v = .non ∧ Q (.ref x) H2) E) :
    wpAny (model X.prog X.w) X.A (call (.ref C) us) (EP X pins σ Q) X.xe s := by
  have hq := h (s.heap.objs.size + 1) s.heap.objs.size (I.hok.fresh (Nat.le_succ _)) (I.hok.fresh (Nat.le_refl _)) (Nat.ne_of_lt (Nat.lt_succ_self _))
  have I2 := Inv.made (C := C) I
  have r2 : Vals (V.ref (s.heap.objs.size + 1) :: (vs ++ dvs)) (Value.ref (s.heap.objs.size + 1) :: (us ++ ds)) := .cons rfl (r.append hd)
  have hl : (Value.ref (s.heap.objs.size + 1) :: us ++ ds).length = ps.length := by
    have e := r2.length
    rw [F.len _ _ _ _ hq] at e
    exact e.symm
  refine wpAny_call (make_map (f := f) I.kIn M.makes M.init (beq_iff_eq.mp M.fn) (codeAny_mono (F.run _ X.stack _ _ ⟨Value.ref (s.heap.objs.size + 1) :: us, []⟩ (Value.ref (s.heap.objs.size + 1) :: (us ++ ds)) _ _ E (hr.make C us [])
    (I2.env0.make C us []) (hb _ (Value.ref (s.heap.objs.size + 1) :: us) I2.kIn hl) r2 hq) fun r s' hq' => ?_))
  cases r with
  | error e => exact hx pins σ _ _ e s' I2 hq'
  | ok fl =>
    cases fl with
    | ret u =>
      obtain ⟨v, H', I3, rv, ev, q3⟩ := I2.after hq'
      subst ev
      exact ⟨rv, ⟨V.ref (s.heap.objs.size + 1), H', I3, rfl, q3⟩⟩
    | next => exact False.elim hq'
    | brk => exact False.elim hq'
    | cont => exact False.elim hq'
theorem pe_make (M : Mk X.K C f) (F : FnOk X.prog X.w X.K X.mg X.base CX k f fd ps sp) (hr : Room (k + 1) X.A) (hg : Gl X x) (hm : X.mg x = some (.ref C)) (hb : Binds X.K fd ps ds) (hd : Vals dvs ds) (hx : Passes CX X E)
    (ha : PA X (e :: es) t) (hdb : (x == ("__debug__" : Str)) = false := by decide) (he : starEach (e :: es) X.env = (false, eval e X.env) :: starEach es X.env := by rfl) (hpl : (backTo pos (starEach es X.env)).any (·.1) = false := by rfl) :
    PE X (.Call (.Name x p) (e :: es) [] pos) (tMake C sp dvs E t) := by
  intro pins s σ H Q I h
  refine wpAny_Call_Name_kw (ld_glob I hg hm ?_ hdb)
  refine PySem.W.callWith_K (h₀ := X.base) I.ok.mod.kin M.kp (thn (ha pos pins s σ H _ I h) fun us s1 ⟨vs, H1, I1, r, q⟩ => ⟨I1.kIn, ?_⟩) he hpl
  exact run_make M F hr hb hd hx I1 r q
end
def PK (X : Cx) (kws : List Keyword) (t : TA) : Prop :=
  ∀ (pos : Pos) (pins : List (Addr × Obj)) (s : Shared) (σ : St) (H : Hp) (Q : List V → Hp → Prop), Inv X pins σ H s → t σ H Q → wpAny (model X.prog X.w) X.A (evalAll ((backToKw pos (keywordEach kws X.env)).map (·.2))) (AP X pins σ Q) X.xe s
section
variable {X : Cx} {CX : CXT} {k : Nat} {f C : Addr} {fd : FuncData} {ps ks : List Str} {sp : Sp} {E : XK} {x m : Str} {p pos apos kpos : Pos} {e o : Expr} {es : List Expr} {kws : List Keyword} {te ta : TE} {t tk : TA} {nm : Option Str}
structure KBinds (K : PySem.W.Frag) (fd : FuncData) (ps ks : List Str) (g : List Value → List Value → List Value) (gV : List V → List V → List V) : Prop where
  to : ∀ (s : Shared) (us ws : List Value), K.In s.heap → (g us ws).length = ps.length → BindsTo s fd ⟨us, ks.zip ws⟩ (ps.zip (g us ws))
  rel : ∀ {vs : List V} {us : List Value} {zs : List V} {ws : List Value}, Vals vs us → Vals zs ws → Vals (gV vs zs) (g us ws)
def tCallK (sp : Sp) (gV : List V → List V → List V) (E : XK) (t tk : TA) : TE := fun σ H Q => t σ H fun vs H1 => tk σ H1 fun zs H2 => sp (gV vs zs) H2 Q E
variable {g : List Value → List Value → List Value} {gV : List V → List V → List V}
end
structure FnScope (N P : List Str) (sc : Scope) : Prop where
  kind : sc.kind = .function
  co : sc.isCoroutine = false
  gen : sc.isGenerator = false
  nd : N.Nodup
  pre : N.take P.length = P
  par : ∀ x ∈ P, sc.names.lookup x = some .local ∨ sc.names.lookup x = some .cell
  nofree : ∀ y ∈ sc.names, y.2 ≠ .free
theorem bindL_out {kindOf : Str → Option NameKind} {x : Str} : ∀ {binds : List (Str × Value)} {m : Str → Option Value}, (∀ v, (x, v) ∉ binds) → bindL kindOf binds m x = m x
  | [], _, _ => rfl
  | (n, v) :: r, m, h => by
    unfold bindL
    rw [bindL_out fun w hw => h w (List.mem_cons_of_mem _ hw)]
    split
    · have : x ≠ n := by rintro rfl; exact h v List.mem_cons_self
      simp [this]
    · rfl
theorem bindC_out {kindOf : Str → Option NameKind} {x : Str} : ∀ {binds : List (Str × Value)} {m : Str → Option Value}, (∀ v, (x, v) ∉ binds) → bindC kindOf binds m x = m x
  | [], _, _ => rfl
  | (n, v) :: r, m, h => by
    unfold bindC
    rw [bindC_out fun w hw => h w (List.mem_cons_of_mem _ hw)]
    split
    · rfl
    · have : x ≠ n := by rintro rfl; exact h v List.mem_cons_self
      simp [this]
theorem bindL_get {kindOf : Str → Option NameKind} {x : Str} {v : Value} : ∀ {P : List Str} {vs : List Value} {i : Nat} {m : Str → Option Value}, P.Nodup → P[i]? = some x → vs[i]? = some v → kindOf x = some .local →
    bindL kindOf (P.zip vs) m x = some v
  | [], _, _, _, _, h, _, _ => by simp at h
  | _ :: _, [], _, _, _, _, h, _ => by simp at h
  | p :: P, w :: vs, 0, m, nd, h1, h2, hk => by
    simp at h1 h2; subst h1; subst h2
    show bindL kindOf ((p, w) :: P.zip vs) m p = _
    unfold bindL
    rw [bindL_out fun v hv => (List.nodup_cons.mp nd).1 (List.of_mem_zip hv).1, if_pos hk]
    simp
  | p :: P, w :: vs, i + 1, m, nd, h1, h2, hk => by
    show bindL kindOf ((p, w) :: P.zip vs) m x = _
    unfold bindL
    exact bindL_get (i := i) (List.nodup_cons.mp nd).2 (by simpa using h1) (by simpa using h2) hk
theorem bindC_get {kindOf : Str → Option NameKind} {x : Str} {v : Value} : ∀ {P : List Str} {vs : List Value} {i : Nat} {m : Str → Option Value}, P.Nodup → P[i]? = some x → vs[i]? = some v → kindOf x ≠ some .local →
    bindC kindOf (P.zip vs) m x = some v
  | [], _, _, _, _, h, _, _ => by simp at h
  | _ :: _, [], _, _, _, _, h, _ => by simp at h
  | p :: P, w :: vs, 0, m, nd, h1, h2, hk => by
    simp at h1 h2; subst h1; subst h2
    show bindC kindOf ((p, w) :: P.zip vs) m p = _
    unfold bindC
    rw [bindC_out fun v hv => (List.nodup_cons.mp nd).1 (List.of_mem_zip hv).1, if_neg hk]
    simp
  | p :: P, w :: vs, i + 1, m, nd, h1, h2, hk => by
    show bindC kindOf ((p, w) :: P.zip vs) m x = _
    unfold bindC
    exact bindC_get (i := i) (List.nodup_cons.mp nd).2 (by simpa using h1) (by simpa using h2) hk
def start (N : List Str) (vs : List V) : St := vs.map some ++ List.replicate (N.length - vs.length) none
def cxOf (CX : CXT) (P : Program) (w : World) (K : PySem.W.Frag) (mg : Str → Option Value) (base : Heap) (N : List Str) (qual : Str) (scope : Scope) (f : Addr) (cd : Value) (A : Around) (outer : List Env) (s : Shared) (H : Hp) (E : XK) : Cx where
  prog := P
  w := w
  K := K
  mg := mg
  base := base
  A := A.deeper (envOfC qual scope s.heap.objs.size f cd)
  N := N
  s₀ := s
  H₀ := H
  env := envOfC qual scope s.heap.objs.size f cd
  outer := outer
  stack := envOfC qual scope s.heap.objs.size f cd :: outer
  ex := []
  calm := true
  fn := fun _ => true
  pn := []
  xe := fun e s' => wpAny (model P w) (A.deeper (envOfC qual scope s.heap.objs.size f cd)) (leaving (envOfC qual scope s.heap.objs.size f cd) e) (fun _ s'' => CX outer H s E e s'') (fun e' s'' => CX outer H s E e' s'') s'
theorem cell_has {sc : Scope} {n : Nat} {x : Str} (h : sc.names.lookup x = some .cell) : ∃ c, (cellsFrom n sc.names []).lookup x = some c := by
  have q := PySem.W.cellsFrom_some sc.names n [] (.inl h)
  exact Option.isSome_iff_exists.mp q
theorem inv_start {CX : CXT} {P : Program} {w : World} {K : PySem.W.Frag} {mg : Str → Option Value} {base : Heap} {N ps : List Str} {qual : Str} {scope : Scope} {f : Addr} {cd : Value} {A : Around} {outer : List Env} {s s1 : Shared} {H : Hp} {E : XK} {us : List Value} {vs : List V}
    (S : FnScope N ps scope) (hd : A.handled = none) (e0 : Env0 P w K mg base A outer s H) (hl : vs.length = ps.length) (r : Vals vs us)
    (x : InCallC s s.heap.objs.size (bindL (envOfC qual scope s.heap.objs.size f cd).kindOf (ps.zip us) fun _ => none) (cellsFrom (s.heap.objs.size + 1) scope.names []) (bindC (envOfC qual scope s.heap.objs.size f cd).kindOf (ps.zip us) fun _ => none) s1) :
    Inv (cxOf CX P w K mg base N qual scope f cd A outer s H E) [] (start N vs) H s1 := by
  have hpl : ps.length ≤ N.length := by have := congrArg List.length S.pre; rw [List.length_take] at this; omega
  obtain ⟨h1, tk, rfl, hk⟩ := x.done
  have noA : ∀ b : Addr, b ∉ (cxOf CX P w K mg base N qual scope f cd A outer s H E).ex := fun b z => absurd (show b ∈ ([] : List Addr) from z) (by simp)
  refine ⟨⟨e0.mod, S.kind, rfl, rfl, Nat.le_refl _, fun y z c h1 h2 => ?_, fun y hy => ?_, fun y c _ h => ?_, fun _ => hd, Around.frames_deeper e0.frames, .inr ⟨rfl, rfl⟩, fun b z => absurd z (noA b), e0.bs, e0.bsz, fun b _ _ => noA b, fun b z => absurd z (noA b), e0.funs, e0.frf⟩,
    rfl, e0.bare, Un.kept hk, ⟨_, x.toInCall.ns, fun i y v h1 h2 h3 => ?_⟩, fun y c h => ⟨_, x.cell y c h⟩, e0.hok.fresh (Nat.le_refl _), fun y c h => ?_, fun p hp => absurd (show p ∈ ([] : List (Addr × Obj)) from hp) (by simp), e0.hok.kept hk, ?_⟩
  · exact name_of_addr x.apart (PySem.mem_of_lookup h1) (PySem.mem_of_lookup h2)
  · have hy : scope.names.lookup y = some .cell ∨ scope.names.lookup y = some .free := hy
    rcases hy with hy | hy
    · exact cell_has hy
    · exact absurd rfl (S.nofree _ (PySem.mem_of_lookup hy))
  · exact Nat.le_of_lt (x.above y c (PySem.mem_of_lookup h))
  · have hi : i < vs.length := by
      unfold start at h2
      by_cases hi : i < vs.length
      · exact hi
      · rw [List.getElem?_append_right (by simpa using hi)] at h2
        rw [List.getElem?_replicate] at h2
        split at h2 <;> cases h2
    have ha : vs[i]? = some v := by
      unfold start at h2
      rw [List.getElem?_append_left (by simpa using hi), List.getElem?_map] at h2
      cases e : vs[i]? with
      | none => rw [e] at h2; cases h2
      | some a => rw [e] at h2; cases h2; rfl
    obtain ⟨u, hu, rv⟩ := r.get ha
    have hp : ps[i]? = some y := by
      rw [← S.pre, List.getElem?_take_of_lt (by omega)]; exact h1
    have ndP : ps.Nodup := by rw [← S.pre]; exact S.nd.sublist (List.take_sublist _ _)
    refine ⟨u, rv, ?_⟩
    rcases S.par y (List.mem_of_getElem? hp) with k | k
    · exact .inl ⟨k, bindL_get ndP hp hu k⟩
    · obtain ⟨c, e⟩ := cell_has (n := s.heap.objs.size + 1) k
      refine .inr ⟨.inl k, c, e, ?_⟩
      have q := x.cell y c e
      rw [bindC_get ndP hp hu (by show scope.names.lookup y ≠ _; rw [k]; decide)] at q
      exact q
  · exact e0.hok.fresh (Nat.le_of_lt (x.above y c (PySem.mem_of_lookup h)))
  · unfold start
    show _ = N.length
    rw [List.length_append, List.length_map, List.length_replicate]
    omega
theorem fn_of {CX : CXT} {P : Program} {w : World} {K : PySem.W.Frag} {mg : Str → Option Value} {base : Heap} {k : Nat} {f : Addr} {name qual : Str} {params : Arguments} {body : List Stmt} {scope : Scope} {dV kV doc pm cdv ct oc : Value} {an od : Option Addr}
    {osl : Array (Option Value)} {N ps : List Str} {sp : Sp} (lk : K.lookup f = some ⟨oc, od, .func (PySem.W.fnOf name qual params body scope dV kV doc pm an cdv ct), osl⟩) (hcd : PySem.W.codeIn K cdv qual = true) (S : FnScope N ps scope)
    (len : ∀ vs H Q E, sp vs H Q E → vs.length = ps.length)
    (hbody : ∀ (A : Around) (outer : List Env) (s : Shared) (H : Hp) (vs : List V) (Q : VK) (E : XK), Room k (A.deeper (envOfC qual scope s.heap.objs.size f cdv)) → sp vs H Q E →
      ∃ t, PSs (cxOf CX P w K mg base N qual scope f cdv A outer s H E) body t ∧ t { nx := fun _ H' => Q .non H', rt := Q } (start N vs) H) :
    FnOk P w K mg base CX (k + 1) f (PySem.W.fnOf name qual params body scope dV kV doc pm an cdv ct) ps sp := by
  refine ⟨len, fun A outer s H args us vs Q E hr e0 hb r hsp => ?_⟩
  have hl := len _ _ _ _ hsp
  have KX : K.In s.heap := e0.mod.kin.keeps fun b o e => (e0.bs b o e).1
  have lim : s.heap.NoLimit := e0.mod.nolimit.keeps fun b o e => (e0.bs b o e).1
  have hkind : ∀ y ∈ ps.zip us, scope.names.lookup y.1 = some .local ∨ (scope.names.lookup y.1 = some .cell ∧ ((cellsFrom (s.heap.objs.size + 1) scope.names []).lookup y.1).isSome = true) := fun ⟨n, v⟩ hy => by
    rcases S.par n (List.of_mem_zip hy).1 with q | q
    · exact .inl q
    · exact .inr ⟨q, PySem.W.cellsFrom_some _ _ _ (.inl q)⟩
  refine codeAny_call_function hr.depth (KX _ _ lk) rfl S.co S.gen rfl (PySem.W.codeRec_of KX hcd) (hb _ _ _ _ ?_)
  refine wpAny_newFunctionEnv_cells S.kind hkind fun env he s1 x => ?_
  subst he
  refine ⟨lim.keeps x.toInCall.keep, codeAny_func ?_⟩
  obtain ⟨t, ht, hq⟩ := hbody A outer s H vs Q E (hr.deeper _) hsp
  have I : Inv (cxOf CX P w K mg base N qual scope f cdv A outer s H E) [] (start N vs) H s1 := inv_start S hr.hd e0 hl r x
  refine wpAny_mono (ht [] s1 (start N vs) H _ I hq) (fun fl s' hs => ?_) fun e s' hs => hs
  have fin : ∀ {σ' : St} {H' : Hp} {v : V} {u : Value}, Inv (cxOf CX P w K mg base N qual scope f cdv A outer s H E) [] σ' H' s' → RelV v u → Q v H' → CE outer P w H s Q u s' :=
    fun {σ' H' v u} J rv q => ⟨v, H', J.os, J.bare, J.base, J.hok, rv, q⟩
  cases fl with
  | ret u =>
    obtain ⟨v, σ', H', J, rv, q⟩ := hs
    exact fin J rv q
  | next =>
    obtain ⟨σ', H', J, q⟩ := hs
    exact fin (v := V.non) (u := Value.none) J rfl q
  | brk =>
    obtain ⟨_, _, _, q⟩ := hs
    exact False.elim q
  | cont =>
    obtain ⟨_, _, _, q⟩ := hs
    exact False.elim q
end L2
namespace L2
open PySem PySem.Spec PyProof.Rows
section
variable {X : Cx} {x : Str} {p pos : Pos} {e : Expr} {es : List Expr} {t : TA} {id T : String} {r : List V → Hp → VK → Prop}
def tCB (r : List V → Hp → VK → Prop) (t : TA) : TE := fun σ H Q => t σ H fun vs H1 => r vs H1 Q
theorem pe_callB (hc : CallR X (.builtin id) r) (hg : Gl X x) (hm : X.mg x = none) (hv : bootBuiltins x = some (.builtin id)) (ha : PA X (e :: es) t) (hn : x ≠ "__name__" := by decide) (hdb : (x == ("__debug__" : Str)) = false := by decide)
    (he : starEach (e :: es) X.env = (false, eval e X.env) :: starEach es X.env := by rfl) (hpl : (backTo pos (starEach es X.env)).any (·.1) = false := by rfl) : PE X (.Call (.Name x p) (e :: es) [] pos) (tCB r t) := by
  intro pins s σ H Q I h
  refine wpAny_Call_Name_kw (ld_blt I hg hm hv ?_ hn hdb)
  exact PyProof.Rows.callWith_builtin1 (thn (ha pos pins s σ H _ I h) fun us s1 ⟨vs, H1, I1, r1, q1⟩ => hc pins s1 σ H1 vs us Q I1 r1 q1) he hpl
theorem pe_callTy (hc : CallR X (.type T) r) (hg : Gl X x) (hm : X.mg x = none) (hv : bootBuiltins x = some (.type T)) (ha : PA X (e :: es) t) (hn : x ≠ "__name__" := by decide) (hdb : (x == ("__debug__" : Str)) = false := by decide)
    (he : starEach (e :: es) X.env = (false, eval e X.env) :: starEach es X.env := by rfl) (hpl : (backTo pos (starEach es X.env)).any (·.1) = false := by rfl) : PE X (.Call (.Name x p) (e :: es) [] pos) (tCB r t) := by
  intro pins s σ H Q I h
  refine wpAny_Call_Name_kw (ld_blt I hg hm hv ?_ hn hdb)
  exact PyProof.Rows.callWith_type1 (thn (ha pos pins s σ H _ I h) fun us s1 ⟨vs, H1, I1, r1, q1⟩ => hc pins s1 σ H1 vs us Q I1 r1 q1) he hpl
end
end L2
namespace HT
open PySem PyProof.Rows
def lexLt : List Int → List Int → Bool
  | [], [] => false
  | [], _ :: _ => true
  | _ :: _, [] => false
  | x :: xs, y :: ys => if x = y then lexLt xs ys else decide (x < y)
section
open PySem.SeqAt
open PySem.AutoSeq1 (wpAny_loadPart')
open PySem.MeetsSeq PySem.MeetsSeq2 PySem.MeetsSeq3
end
section
variable {prog : Program} {w : World} {A : Around} {E : Value → Shared → Prop} {s : Shared}
def sIx (n d : Nat) : Option Int → Nat
  | none => d
  | some v => if v < 0 then (v + (n : Int)).toNat else min v.toNat n
theorem sIx_none (n d : Nat) : sIx n d none = d := rfl
theorem sIx_nat (n d k : Nat) : sIx n d (some (k : Int)) = min k n := by
  show (if (k : Int) < 0 then ((k : Int) + (n : Int)).toNat else min (k : Int).toNat n) = min k n
  rw [if_neg (by omega), Int.toNat_natCast]
end
end HT
namespace L2
open PySem PySem.Spec PyProof.Rows
abbrev TO := St → Hp → (Option Int → Hp → Prop) → Prop
def PO (X : Cx) (e : Option Expr) (t : TO) : Prop :=
  ∀ (pins : List (Addr × Obj)) (s : Shared) (σ : St) (H : Hp) (Q : Option Int → Hp → Prop), Inv X pins σ H s → t σ H Q →
    wpAny (model X.prog X.w) X.A (evalPart e X.env) (fun u s' => ∃ o H', Inv X pins σ H' s' ∧ IsPart u o ∧ Q o H') X.xe s
def tNoPart : TO := fun _ H Q => Q none H
def tPart (t : TE) : TO := fun σ H Q => t σ H fun x H1 => ∃ i, x = .int i ∧ Q (some i) H1
theorem intsAre_of {ns : List Int} : ∀ {us : List Value}, Vals (ns.map V.int) us → IntsAre us ns := by
  induction ns with
  | nil => intro us r; rw [List.map_nil] at r; cases r; exact .nil
  | cons n ns ih =>
    intro us r
    rw [List.map_cons] at r
    cases r with
    | cons r1 r2 =>
      obtain ⟨t, e⟩ := r1
      subst e
      exact .cons n t (ih r2)
section
variable {X : Cx} {e : Expr} {te : TE} {lo hi : Option Expr} {tl th : TO} {pos p2 : Pos}
theorem po_none : PO X none tNoPart := by
  intro pins s σ H Q I h
  rw [evalPart_none]
  exact wpAny_pure ⟨none, H, I, .none, h⟩
theorem po_some (h : PE X e te) : PO X (some e) (tPart te) := by
  intro pins s σ H Q I hw
  rw [evalPart_some]
  refine thn (h pins s σ H _ I hw) fun u s1 ⟨x, H1, I1, r1, q1⟩ => ?_
  obtain ⟨i, rfl, q⟩ := q1
  obtain ⟨t, rfl⟩ := r1
  exact ⟨some i, H1, I1, .int i t, q⟩
def SlR (X : Cx) (r : V → Option Int → Option Int → Hp → VK → Prop) : Prop :=
  ∀ (pins : List (Addr × Obj)) (s : Shared) (σ : St) (H : Hp) (x : V) (v vl vu : Value) (lo hi : Option Int) (sl : Addr) (Q : VK), Inv X pins σ H s → RelV x v → s.heap.IsSliceOf sl vl vu .none → IsPart vl lo → IsPart vu hi → r x lo hi H Q →
    ∃ T id, typeLookup (.type T) "__getitem__" = pure (some (.builtin id)) ∧ s.TypeIs v T ∧ wpAny (model X.prog X.w) X.A (getItem v (.ref sl)) (EP X pins σ Q) X.xe s
def tSl (r : V → Option Int → Option Int → Hp → VK → Prop) (te : TE) (tl th : TO) : TE := fun σ H Q => te σ H fun x H1 => tl σ H1 fun l H2 => th σ H2 fun u H3 => r x l u H3 Q
theorem pe_slice {r : V → Option Int → Option Int → Hp → VK → Prop} (hr : SlR X r) (he : PE X e te) (hl : PO X lo tl) (hu : PO X hi th) : PE X (.Subscript e (.Slice lo hi none p2) pos) (tSl r te tl th) := by
  intro pins s σ H Q I h
  refine Subscript_ (thn (he pins s σ H _ I h) fun v s1 ⟨x, H1, I1, r1, q1⟩ => ?_)
  refine wpAny_Slice (thn (hl pins s1 σ H1 _ I1 q1) fun vl s2 ⟨l, H2, I2, pl, q2⟩ => thn (hu pins s2 σ H2 _ I2 q2) fun vu s3 ⟨u, H3, I3, pu, q3⟩ => ?_)
  rw [evalPart_none]
  refine wpAny_pure ?_
  have I4 : Inv X pins σ H3 { s3 with heap := s3.heap.push { cls := .type "slice", data := .fields #[vl, vu, .none] } } := I3.kept (t' := s3.toks) fun b ob q => Heap.get?_push_of_some _ q
  obtain ⟨T, id, hT, ht, hg⟩ := hr pins { s3 with heap := s3.heap.push { cls := .type "slice", data := .fields #[vl, vu, .none] } } σ H3 x v vl vu l u s3.heap.objs.size Q I4 r1 (Heap.IsSliceOf.new ..) pl pu q3
  show wpAny (model X.prog X.w) X.A (subscriptTail e (.Slice lo hi none p2) v (.ref s3.heap.objs.size)) (EP X pins σ Q) X.xe { s3 with heap := s3.heap.push { cls := .type "slice", data := .fields #[vl, vu, .none] } }
  exact tail_any (ops := [.ref s3.heap.objs.size, v]) ht hT hg (by with_unfolding_all rfl)
def cutV (xs : List V) (lo hi : Option Int) : List V := (xs.drop (HT.sIx xs.length 0 lo)).take (HT.sIx xs.length xs.length hi - HT.sIx xs.length 0 lo)
theorem cutV_length (xs : List V) (lo hi : Option Int) : (cutV xs lo hi).length ≤ xs.length := by
  unfold cutV
  rw [List.length_take, List.length_drop]
  omega
def rSlT (K : PySem.W.Frag) : V → Option Int → Option Int → Hp → VK → Prop := fun x lo hi H Q => ∃ a xs, x = .ref a ∧ SqT K H a xs ∧
  ¬ (HT.sIx xs.length 0 lo = 0 ∧ HT.sIx xs.length xs.length hi = xs.length) ∧ ∀ p, H p = none → Q (.ref p) (upd H p (.tup (cutV xs lo hi)))
def rLtT (K : PySem.W.Frag) : R2 := fun x y H Q => ∃ a b ns ms, x = .ref a ∧ y = .ref b ∧ SqT K H a (ns.map V.int) ∧ SqT K H b (ms.map V.int) ∧ Q (.bl (HT.lexLt ns ms)) H
def rCatT (K : PySem.W.Frag) : R2 := fun x y H Q => ∃ a b xs ys, x = .ref a ∧ y = .ref b ∧ SqT K H a xs ∧ SqT K H b ys ∧ xs ≠ [] ∧ xs.length + ys.length ≤ sizeLine ∧
  (ys = [] → Q (.ref a) H) ∧ (ys ≠ [] → ∀ p, H p = none → Q (.ref p) (upd H p (.tup (xs ++ ys))))
end
end L2
namespace L2
open PySem PySem.Spec PyProof.Rows
def ixN (n : Nat) (i : Int) : Option Nat := if 0 ≤ i then (if i < n then some i.toNat else none) else if -(n : Int) ≤ i then some (i + n).toNat else none
def atI {α : Type} (xs : List α) (i : Int) : Option α := (ixN xs.length i).bind fun j => xs[j]?
theorem ixN_seq {n : Nat} {i : Int} {j : Nat} (h : ixN n i = some j) : seqIndex? i n = some j ∧ j < n ∧ -(n : Int) ≤ i ∧ i < n := by
  unfold ixN at h
  by_cases h0 : 0 ≤ i
  · rw [if_pos h0] at h
    by_cases h1 : i < n
    · rw [if_pos h1] at h
      have e : i.toNat = j := Option.some.inj h
      exact ⟨by rw [seqIndex_of h0 h1, e], by omega, by omega, h1⟩
    · rw [if_neg h1] at h; cases h
  · rw [if_neg h0] at h
    by_cases h1 : -(n : Int) ≤ i
    · rw [if_pos h1] at h
      have e : (i + n).toNat = j := Option.some.inj h
      exact ⟨by rw [seqIndex_neg (by omega) h1, e], by omega, h1, by omega⟩
    · rw [if_neg h1] at h; cases h
theorem atI_get {α : Type} {xs : List α} {i : Int} {v : α} (h : atI xs i = some v) : ∃ j, seqIndex? i xs.length = some j ∧ xs[j]? = some v ∧ j < xs.length ∧ -(xs.length : Int) ≤ i ∧ i < xs.length := by
  unfold atI at h
  cases e : ixN xs.length i with
  | none => rw [e] at h; cases h
  | some j =>
    rw [e] at h
    obtain ⟨h1, h2, h3, h4⟩ := ixN_seq e
    exact ⟨j, h1, h, h2, h3, h4⟩
theorem atI_nat {α : Type} {xs : List α} {j : Nat} {v : α} (h : xs[j]? = some v) : atI xs (j : Int) = some v := by
  have hj : j < xs.length := (List.getElem?_eq_some_iff.mp h).1
  have e : ixN xs.length (j : Int) = some j := by
    unfold ixN
    rw [if_pos (by omega), if_pos (by omega)]; simp
  unfold atI; rw [e]; exact h
theorem atI_last {α : Type} (xs : List α) (v : α) : atI (xs ++ [v]) (-1) = some v := by
  have hl : (xs ++ [v]).length = xs.length + 1 := by simp
  have e : ixN (xs ++ [v]).length (-1) = some xs.length := by
    unfold ixN
    rw [hl, if_neg (by decide), if_pos (by omega)]
    congr 1
    omega
  unfold atI
  rw [e]
  show (xs ++ [v])[xs.length]? = some v
  simp
def PlainIx (b : Expr) : Prop := ∀ o i, subscripted b false o i = operate [o, i] (getItem o i)
def IxR (X : Cx) (r : R2) : Prop :=
  ∀ (value slice : Expr) (pins : List (Addr × Obj)) (s : Shared) (σ : St) (H : Hp) (x y : V) (v u : Value) (Q : VK), Inv X pins σ H s → RelV x v → RelV y u → r x y H Q →
    subscripted slice false v u = operate [v, u] (getItem v u) → wpAny (model X.prog X.w) X.A (subscriptTail value slice v u) (EP X pins σ Q) X.xe s
def MtR (X : Cx) (id : String) (r : V → List V → Hp → VK → Prop) : Prop :=
  ∀ (pins : List (Addr × Obj)) (s : Shared) (σ : St) (H : Hp) (x : V) (xs : List V) (v : Value) (us : List Value) (Q : VK), Inv X pins σ H s → RelV x v → Vals xs us → r x xs H Q →
    wpAny (model X.prog X.w) X.A (call (.builtin id) (v :: us)) (EP X pins σ Q) X.xe s
section
variable {X : Cx} {a b : Expr} {ta tb : TE} {pos : Pos}
theorem pe_ix {r : R2} (hr : IxR X r) (ha : PE X a ta) (hb : PE X b tb) (hs : PlainIx b) : PE X (.Subscript a b pos) (tOp r ta tb) := by
  intro pins s σ H Q I h
  exact Subscript_ (binT ha hb I h fun v u s2 x y H2 I2 rx ry q => hr a b pins s2 σ H2 x y v u Q I2 rx ry q (hs _ _))
def rIxL (K : PySem.W.Frag) : R2 := fun x y H Q => ∃ p xs i v, x = .ref p ∧ y = .int i ∧ SqL K H p xs ∧ atI xs i = some v ∧ Q v H
def rIxT (K : PySem.W.Frag) : R2 := fun x y H Q => ∃ p xs i v, x = .ref p ∧ y = .int i ∧ SqT K H p xs ∧ atI xs i = some v ∧ Q v H
def rIxS : R2 := fun x y H Q => ∃ z i c, x = .str z ∧ y = .int i ∧ z.length ≤ sizeLine ∧ atI z.cps.toList i = some c ∧ Q (.str ⟨#[c]⟩) H
theorem ix_list : IxR X (rIxL X.K) := by
  intro value slice pins s σ H x y v u Q I rx ry h hs
  obtain ⟨p, xs, i, z, rfl, rfl, hq, he, q⟩ := h
  cases rx
  obtain ⟨t, rfl⟩ := ry
  obtain ⟨its, r, pl, hz⟩ := I.list hq
  obtain ⟨j, h1, h2, h3, h4, h5⟩ := atI_get he
  obtain ⟨w, ew, rw'⟩ := r.get h2
  have hl := r.length
  have hn := line63
  have fin : EP X pins σ Q w s := ⟨z, H, I, rw', q⟩
  by_cases h0 : 0 ≤ i
  · have hj : i.toNat = j := by
      rw [seqIndex_of h0 h5] at h1
      exact Option.some.inj h1
    exact item_listR pl.isList h0 (by omega) (by rw [hj]; simpa using ew) fin hs
  · have hj : (i + (its.toArray.size : Int)).toNat = j := by
      rw [seqIndex_neg (by omega) h4] at h1
      rw [List.size_toArray, ← hl]
      exact Option.some.inj h1
    exact subscriptTail_builtinR (x := w) pl.isList.typeIs slot_list_getitem.lookup
      (wpAny_getItem_list_neg (Q := fun r s' => r = w ∧ EP X pins σ Q r s') pl.isList (by omega) (by rw [List.size_toArray] <;> omega) (by omega) (by rw [hj]; simpa using ew) ⟨rfl, fin⟩) hs
theorem ix_tup : IxR X (rIxT X.K) := by
  intro value slice pins s σ H x y v u Q I rx ry h hs
  obtain ⟨p, xs, i, z, rfl, rfl, hq, he, q⟩ := h
  cases rx
  obtain ⟨t, rfl⟩ := ry
  obtain ⟨its, r, pl, hz⟩ := I.tuple hq
  obtain ⟨j, h1, h2, h3, h4, h5⟩ := atI_get he
  obtain ⟨w, ew, rw'⟩ := r.get h2
  have hl := r.length
  have hn := line63
  have fin : EP X pins σ Q w s := ⟨z, H, I, rw', q⟩
  exact subscriptTail_builtinR (x := w) pl.typeIs slot_tuple_getitem.lookup
    (getItem_tuple (j := j) (Q := fun r s' => r = w ∧ EP X pins σ Q r s') pl (by omega) (by omega) (by rw [List.size_toArray, ← hl]; exact h1) (by simpa using ew) ⟨rfl, fin⟩) hs
def rIx (K : PySem.W.Frag) : R2 := fun x y H Q => rIxL K x y H Q ∨ rIxT K x y H Q ∨ rIxS x y H Q
theorem mapSeq_set (its : List Value) (n j : Nat) (u : Value) : Obj.mapSeq (·.setIfInBounds j u) { cls := .type "list", data := .seq its.toArray n } = { cls := .type "list", data := .seq (its.set j u).toArray n } := by
  simp [Obj.mapSeq]
theorem Inv.lst {pins : List (Addr × Obj)} {σ : St} {H : Hp} {s : Shared} {p : Addr} {xs : List V} (I : Inv X pins σ H s) (h : H p = some (.lst xs)) :
    ∃ (its : List Value) (n : Nat), Vals xs its ∧ s.heap.get? p = some { cls := .type "list", data := .seq its.toArray n } ∧ xs.length ≤ sizeLine := by
  obtain ⟨z, its, n, r, e⟩ := I.hok p _ h
  exact ⟨its, n, r, e, z⟩
theorem Inv.lstUpd {pins : List (Addr × Obj)} {σ : St} {H : Hp} {s : Shared} {p : Addr} {xs ys : List V} {its its' : List Value} {n n' : Nat} {f : Obj → Obj} (I : Inv X pins σ H s) (h : H p = some (.lst xs))
    (ho : s.heap.get? p = some { cls := .type "list", data := .seq its.toArray n }) (hf : f { cls := .type "list", data := .seq its.toArray n } = { cls := .type "list", data := .seq its'.toArray n' }) (r : Vals ys its') (hz : ys.length ≤ sizeLine) (t : Nat) :
    Inv X pins σ (upd H p (.lst ys)) { s with heap := s.heap.update p f, toks := t } := by
  have e : (s.heap.update p f).get? p = some { cls := .type "list", data := .seq its'.toArray n' } := by
    rw [Heap.get?_update_self f ho (by rw [hf] <;> rfl), hf]
  refine I.write (x := p) (e := p) (by rw [h]; trivial) (.inl rfl) (fun b u hb q => (Heap.get?_update_other _ _ (Ne.symm hb)).trans q) ⟨_, e⟩ ?_
  exact ⟨hz, its', n', r, e⟩
def rSetL : V → V → V → Hp → (Hp → Prop) → Prop := fun o i v H Q => ∃ p xs k j, o = .ref p ∧ i = .int k ∧ H p = some (.lst xs) ∧ ixN xs.length k = some j ∧ Q (upd H p (.lst (xs.set j v)))
theorem set_list : PSet X rSetL := by
  intro pins s σ H o i v ov iv u Q I ro ri rv h
  obtain ⟨p, xs, k, j, rfl, rfl, hp, hj, q⟩ := h
  cases ro
  obtain ⟨t, rfl⟩ := ri
  obtain ⟨its, n, r, ho, hz⟩ := I.lst hp
  obtain ⟨h1, h2, h3, h4⟩ := ixN_seq hj
  have hl := r.length
  have hn := line63
  have I' : Inv X pins σ (upd H p (.lst (xs.set j v))) { s with heap := s.heap.update p (Obj.mapSeq (·.setIfInBounds j u)) } :=
    I.lstUpd hp ho (mapSeq_set its n j u) (r.set rv j) (by rw [List.length_set]; exact hz) s.toks
  by_cases h0 : 0 ≤ k
  · have hk : k.toNat = j := by
      rw [seqIndex_of h0 h4] at h1
      exact Option.some.inj h1
    exact PySem.W.ki_setAt ho h0 (by omega) (by rw [List.size_toArray, ← hl]; exact h4) (by rw [hk]; exact ⟨_, I', q⟩)
  · have hk : (k + (its.toArray.size : Int)).toNat = j := by
      rw [seqIndex_neg (by omega) h3] at h1
      rw [List.size_toArray, ← hl]
      exact Option.some.inj h1
    exact PySem.W.ki_setBack ho (by omega) (by rw [List.size_toArray, ← hl]; exact h3) (by omega) (by rw [hk]; exact ⟨_, I', q⟩)
theorem slice_bounds (lo hi : Option Int) (n : Nat) : (sliceBounds lo hi none n).1 = ((HT.sIx n 0 lo : Nat) : Int) ∧ (sliceBounds lo hi none n).2.1 = ((HT.sIx n n hi : Nat) : Int) ∧ (sliceBounds lo hi none n).2.2 = 1 := by
  refine ⟨?_, ?_, rfl⟩
  · cases lo with
    | none => simp [sliceBounds, HT.sIx]
    | some i =>
      simp only [sliceBounds, HT.sIx, Option.getD_none, show (1 : Int) > 0 by decide, if_true]
      by_cases h : i < 0
      · simp only [h, if_true] <;> omega
      · simp only [h, if_false] <;> omega
  · cases hi with
    | none => simp [sliceBounds, HT.sIx]
    | some i =>
      simp only [sliceBounds, HT.sIx, Option.getD_none, show (1 : Int) > 0 by decide, if_true]
      by_cases h : i < 0
      · simp only [h, if_true] <;> omega
      · simp only [h, if_false] <;> omega
theorem slicePick_cut (its : List Value) (lo hi : Option Int) : slicePick its.toArray lo hi none = ((its.drop (HT.sIx its.length 0 lo)).take (HT.sIx its.length its.length hi - HT.sIx its.length 0 lo)).toArray := by
  obtain ⟨h1, h2, h3⟩ := slice_bounds lo hi its.toArray.size
  unfold slicePick
  rw [h1, h2, h3]
  simp only [sliceRange_one, pick_run, List.size_toArray] <;> rfl
def rSlL (K : PySem.W.Frag) : V → Option Int → Option Int → Hp → VK → Prop := fun x lo hi H Q => ∃ a xs, x = .ref a ∧ SqL K H a xs ∧ ∀ p, H p = none → Q (.ref p) (upd H p (.lst (cutV xs lo hi)))
theorem sl_list : SlR X (rSlL X.K) := by
  intro pins s σ H x v vl vu lo hi sl Q I rx hs pl pu h
  obtain ⟨a, xs, rfl, hx, q⟩ := h
  cases rx
  obtain ⟨its, r, ht, hz⟩ := I.list hx
  have hlen := r.length
  refine ⟨"list", _, slot_list_getitem.lookup, ht.isList.typeIs, ?_⟩
  refine wpAny_getItem_list_slice ht.isList hs pl pu .none (by simp) ?_ (by rw [List.size_toArray] <;> omega)
  rw [slicePick_cut, ← hlen]
  refine ⟨.ref s.heap.objs.size, _, I.laid (t' := s.toks) (o := .lst (cutV xs lo hi)) (fun b ob q => Heap.get?_push_of_some _ q) (Nat.le_refl _) ?_, rfl, q _ (I.hok.fresh (Nat.le_refl _))⟩
  exact ⟨Nat.le_trans (cutV_length xs lo hi) hz, _, 0, (r.drop (HT.sIx xs.length 0 lo)).take (HT.sIx xs.length xs.length hi - HT.sIx xs.length 0 lo), Heap.get?_push_size _ rfl⟩
def flatV : V → Bool
  | .non => true
  | .bl _ => true
  | .int _ => true
  | .str _ => true
  | _ => false
def eqV : V → V → Bool
  | .non, .non => true
  | .bl a, .bl b => a == b
  | .bl a, .int b => (if a then 1 else 0) == b
  | .int a, .bl b => a == (if b then 1 else 0)
  | .int a, .int b => a == b
  | .str a, .str b => a == b
  | _, _ => false
def eqU (x : V) (u : Value) : Bool := match u with
  | .none => eqV .non x
  | .bool b => eqV (.bl b) x
  | .int i _ => eqV (.int i) x
  | .str z _ => eqV (.str z) x
  | _ => false
def inV (x : V) (xs : List V) : Bool := xs.any fun y => eqV y x
def rIn (K : PySem.W.Frag) (neg : Bool) : R2 := fun x y H Q => ∃ p xs, y = .ref p ∧ (SqL K H p xs ∨ SqT K H p xs) ∧ flatV x = true ∧ xs.all flatV = true ∧ Q (.bl (if neg then !inV x xs else inV x xs)) H
theorem call_list_of : CallR X (.type "list") (fun xs H Q => ∃ p ys, xs = [.ref p] ∧ (SqL X.K H p ys ∨ SqT X.K H p ys) ∧ ∀ l, H l = none → Q (.ref l) (upd H l (.lst ys))) := by
  intro pins s σ H xs us Q I r h
  obtain ⟨p, ys, rfl, hq, q⟩ := h
  obtain ⟨u, rfl, rx⟩ := vals1 r
  cases rx
  have fin : ∀ (its : List Value), Vals ys its → ys.length ≤ sizeLine → ∀ (h' : Heap) (c' : Nat), (∀ b o', s.heap.get? b = some o' → h'.get? b = some o') →
      h'.get? s.heap.objs.size = some { cls := .type "list", dict := none, data := .seq its.toArray c', slots := #[] } → EP X pins σ Q (.ref s.heap.objs.size) { s with heap := h' } := fun its r' hz h' c' kp e =>
    ⟨.ref s.heap.objs.size, _, I.laid (t' := s.toks) kp (Nat.le_refl _) (show ObjOk X.prog X.w _ h' _ (.lst ys) from ⟨hz, its, c', r', e⟩), rfl, q _ (I.hok.fresh (Nat.le_refl _))⟩
  rcases hq with hq | hq
  · obtain ⟨its, r', pl, hz⟩ := I.list hq
    have hlen := r'.length
    obtain ⟨o, ho, hc, n, hd⟩ := pl.isList
    exact call_list_seq p (.inl rfl) ho hc hd (fun h' c' kp e => fin its r' hz h' c' kp e) (by simp only [List.size_toArray] <;> omega)
  · obtain ⟨its, r', pl, hz⟩ := I.tuple hq
    have hlen := r'.length
    obtain ⟨o, ho, hc, n, hd⟩ := pl
    exact call_list_seq p (.inr rfl) ho hc hd (fun h' c' kp e => fin its r' hz h' c' kp e) (by simp only [List.size_toArray] <;> omega)
theorem call_tuple_of : CallR X (.type "tuple") (fun xs H Q => ∃ p ys, xs = [.ref p] ∧ ((SqL X.K H p ys ∧ ∀ l, H l = none → Q (.ref l) (upd H l (.tup ys))) ∨ (SqT X.K H p ys ∧ Q (.ref p) H))) := by
  intro pins s σ H xs us Q I r h
  obtain ⟨p, ys, rfl, h⟩ := h
  obtain ⟨u, rfl, rx⟩ := vals1 r
  cases rx
  rcases h with ⟨hq, q⟩ | ⟨hq, q⟩
  · obtain ⟨its, r', pl, hz⟩ := I.list hq
    have hlen := r'.length
    refine call_tuple_list pl.isList (fun h' kp => ?_) (by simp only [List.size_toArray] <;> omega)
    have I1 : Inv X pins σ H { s with heap := h' } := I.kept (t' := s.toks) kp
    have I2 : Inv X pins σ (upd H h'.objs.size (.tup ys)) { s with heap := h'.push { cls := .type "tuple", data := .seq its.toArray } } :=
      I1.laid (t' := s.toks) (fun b o e => Heap.get?_push_of_some _ e) (Nat.le_refl _) (show ObjOk X.prog X.w _ _ _ (.tup ys) from ⟨hz, its, r', IsTup.new _ _⟩)
    exact ⟨.ref h'.objs.size, _, I2, rfl, q _ (I1.hok.fresh (Nat.le_refl _))⟩
  · obtain ⟨its, r', pl, hz⟩ := I.tuple hq
    exact call_tuple_same pl ⟨.ref p, H, I, rfl, q⟩
def tyV (K : PySem.W.Frag) (T : String) (x : V) (H : Hp) : Prop := match x with
  | .str _ => T = "str"
  | .int _ => T = "int"
  | .ref p => (T = "list" ∧ ∃ xs, SqL K H p xs) ∨ (T = "tuple" ∧ ∃ o, K.lookup p = some o ∧ o.cls = .type "tuple" ∧ o.dict = none) ∨
      (T = "dict" ∧ ((∃ kvs, H p = some (.dK kvs)) ∨ ∃ kvs, H p = some (.dT kvs))) ∨ (T = "set" ∧ ∃ S n, H p = some (.set S n))
  | _ => False
theorem tyV_is {pins : List (Addr × Obj)} {σ : St} {H : Hp} {s : Shared} {T : String} {x : V} {v : Value} (I : Inv X pins σ H s) (r : RelV x v) (ty : tyV X.K T x H) :
    s.TypeIs v T ∧ ∀ a, v = .ref a → ∃ ob, s.heap.get? a = some ob ∧ ob.dict = none := by
  cases x with
  | str z =>
    obtain ⟨t, rfl⟩ := r
    cases (show T = "str" from ty)
    exact ⟨typeIs_str s z t, fun _ e => nomatch e⟩
  | int i =>
    obtain ⟨t, rfl⟩ := r
    cases (show T = "int" from ty)
    exact ⟨typeIs_int s i t, fun _ e => nomatch e⟩
  | ref p =>
    cases r
    rcases ty with ⟨rfl, xs, hq⟩ | ⟨rfl, o, hk, hc, hd⟩ | ⟨rfl, hk⟩ | ⟨rfl, S, n, hk⟩
    · obtain ⟨its, _, pl, _⟩ := I.list hq
      refine ⟨pl.isList.typeIs, fun a e => ?_⟩
      cases e
      obtain ⟨o, n, e, c, hd, _⟩ := pl
      exact ⟨o, e, hd⟩
    · refine ⟨⟨o, I.kIn p o hk, hc⟩, fun a e => ?_⟩
      cases e
      exact ⟨o, I.kIn _ o hk, hd⟩
    · have z : ∃ o, s.heap.get? p = some o ∧ o.ExactDict := by
        rcases hk with ⟨kvs, hk⟩ | ⟨kvs, hk⟩
        · obtain ⟨_, _, _, _, o, _, _, e, ex, _⟩ := I.hok p _ hk
          exact ⟨o, e, ex⟩
        · obtain ⟨_, _, _, _, o, _, _, e, ex, _⟩ := I.hok p _ hk
          exact ⟨o, e, ex⟩
      obtain ⟨o, e, ex⟩ := z
      refine ⟨⟨o, e, ex.1⟩, fun a e2 => ?_⟩
      cases e2
      exact ⟨o, e, ex.2.1⟩
    · obtain ⟨o, _, _, _, e, ex, _⟩ := I.hok p _ hk
      refine ⟨⟨o, e, ex.1⟩, fun a e2 => ?_⟩
      cases e2
      exact ⟨o, e, ex.2.1⟩
  | _ => exact False.elim ty
def tBM0 (K : PySem.W.Frag) (T : String) (r : V → List V → Hp → VK → Prop) (to : TE) : TE := fun σ H Q => to σ H fun x H1 => tyV K T x H1 ∧ r x [] H1 Q
def tBM (K : PySem.W.Frag) (T : String) (r : V → List V → Hp → VK → Prop) (to : TE) (t : TA) : TE := fun σ H Q => to σ H fun x H1 => tyV K T x H1 ∧ t σ H1 fun xs H2 => r x xs H2 Q
variable {o e : Expr} {es : List Expr} {to : TE} {t : TA} {name : Str} {apos cpos : Pos} {T id : String} {r : V → List V → Hp → VK → Prop}
theorem pe_bm (pa : PlainAttrs T) (slot : Slot T name id) (hty : typeOf (.builtin id) = pure (.type "method_descriptor")) (hm : MtR X id r) (ho : PE X o to) (ha : PA X (e :: es) t)
    (hbase : attributeBase o name X.env (eval o X.env) = eval o X.env := by rfl)
    (hfew : ((backTo cpos (starEach (e :: es) X.env)).all (fun x => !x.1) && (backToKw cpos (keywordEach [] X.env)).all (fun x => x.1.isSome)
      && decide ((e :: es).length + ([] : List Keyword).length + (if ([] : List Keyword).isEmpty then 0 else 1) < 30)) = true := by rfl)
    (hline : (apos.endLine == cpos.line) = true := by rfl) (hs : starEach (e :: es) X.env = (false, eval e X.env) :: starEach es X.env := by rfl) (hplain : (backTo cpos (starEach es X.env)).any (·.1) = false := by rfl) :
    PE X (.Call (.Attribute o name apos) (e :: es) [] cpos) (tBM X.K T r to t) := by
  intro pins s σ H Q I h
  refine wpAny_Call_method_late hbase hfew hline rfl (thn (ho pins s σ H _ I h) fun v s1 ⟨x, H1, I1, r1, ty, q1⟩ => ?_)
  obtain ⟨h1, h2⟩ := tyV_is I1 r1 ty
  refine ⟨T, id, pa, slot, hty, h1, h2, ?_⟩
  have hA := ha cpos pins s1 σ H1 _ I1 q1
  rw [hs] at hA ⊢
  refine Calls.callWith_builtin (by show (false || (backTo cpos (starEach es X.env)).any (·.1)) = false; rw [hplain] <;> rfl) (Calls.evalArgs_plain ?_)
  exact thn hA fun us s2 ⟨vs, H2, I2, r2, q2⟩ => hm pins s2 σ H2 x vs v us Q I2 r1 r2 q2
/- xs.append(e), list.index on a module's tuple .. are MtR facts of 06m -/
end
end L2
namespace L2
open PySem PySem.Spec PyProof.Rows
def MtM (X : Cx) (id : String) (r : V → List V → Hp → VK → Prop) : Prop :=
  ∀ (pins : List (Addr × Obj)) (s : Shared) (σ : St) (H : Hp) (x : V) (xs : List V) (v : Value) (us : List Value) (Q : VK), Inv X pins σ H s → RelV x v → Vals xs us → r x xs H Q →
    wpAny (model X.prog X.w) X.A (call (.builtin id) (v :: us)) (EP X pins σ Q) X.xe s
theorem Vals.one : ∀ {x : V} {us : List Value}, Vals [x] us → ∃ u, us = [u] ∧ RelV x u
  | _, _, .cons r .nil => ⟨_, rfl, r⟩
theorem Vals.two : ∀ {x y : V} {us : List Value}, Vals [x, y] us → ∃ u v, us = [u, v] ∧ RelV x u ∧ RelV y v
  | _, _, _, .cons r (.cons q .nil) => ⟨_, _, rfl, r, q⟩
theorem Vals.zero : ∀ {us : List Value}, Vals [] us → us = []
  | _, .nil => rfl
theorem Vals.dropLast {xs : List V} {us : List Value} (h : Vals xs us) : Vals xs.dropLast us.dropLast := by
  induction h with
  | nil => exact .nil
  | cons r t ih =>
    cases t with
    | nil => exact .nil
    | cons q t' => exact .cons r ih
theorem Vals.eraseIdx : ∀ {xs : List V} {us : List Value} (i : Nat), Vals xs us → Vals (xs.eraseIdx i) (us.eraseIdx i)
  | _, _, _, .nil => .nil
  | _, _, 0, .cons _ t => t
  | _, _, i + 1, .cons r t => .cons r (Vals.eraseIdx i t)
theorem Vals.reverse {xs : List V} {us : List Value} (h : Vals xs us) : Vals xs.reverse us.reverse := by
  induction h with
  | nil => exact .nil
  | cons r t ih => rw [List.reverse_cons, List.reverse_cons]; exact Vals.append ih (.cons r .nil)
theorem Vals.rep {xs : List V} {us : List Value} (h : Vals xs us) : ∀ k : Nat, Vals (List.replicate k xs).flatten (List.replicate k us).flatten
  | 0 => .nil
  | k + 1 => by
    rw [List.replicate_succ, List.replicate_succ, List.flatten_cons, List.flatten_cons]
    exact Vals.append h (Vals.rep h k)
theorem foldl_rep (its : List Value) : ∀ (k : Nat) (acc : List Value),
    List.foldl (fun x1 x2 => x1 ++ x2) acc.toArray (List.replicate k its.toArray) = (acc ++ (List.replicate k its).flatten).toArray
  | 0, acc => by simp
  | k + 1, acc => by
    have e : acc.toArray ++ its.toArray = (acc ++ its).toArray := by simp
    have e2 : (acc ++ its) ++ (List.replicate k its).flatten = acc ++ (List.replicate (k + 1) its).flatten := by
      rw [List.replicate_succ, List.flatten_cons, List.append_assoc]
    rw [← e2, ← foldl_rep its k (acc ++ its), ← e, List.replicate_succ, List.foldl_cons]
section
variable {X : Cx} {pins : List (Addr × Obj)} {σ : St} {H : Hp} {s : Shared} {l b : Addr} {xs ys zs : List V}
theorem Inv.lset {its its' : List Value} {n : Nat} {f : Array Value → Array Value} {t' : Nat} (I : Inv X pins σ H s) (hH : H l = some (.lst xs))
    (e : s.heap.get? l = some { cls := .type "list", data := .seq its.toArray n }) (hf : f its.toArray = its'.toArray) (hv : Vals ys its') (hz : ys.length ≤ sizeLine) :
    Inv X pins σ (upd H l (.lst ys)) { s with heap := s.heap.update l (Obj.mapSeq f), toks := t' } := by
  have q := PySem.IsL.update e f
  rw [hf] at q
  refine I.write (x := l) (e := l) (by rw [hH]; exact trivial) (.inl rfl) (fun b' u hb hu => (Heap.get?_update_other s.heap (Obj.mapSeq f) (Ne.symm hb)).trans hu) ⟨_, q⟩ ?_
  exact ⟨hz, its', _, hv, q⟩
theorem Inv.lnew {its : List Value} {t' : Nat} (I : Inv X pins σ H s) (hv : Vals ys its) (hz : ys.length ≤ sizeLine) :
    Inv X pins σ (upd H s.heap.objs.size (.lst ys)) { s with heap := s.heap.push { cls := .type "list", data := .seq its.toArray }, toks := t' } :=
  I.laid (fun _ _ q => Heap.get?_push_of_some _ q) (Nat.le_refl _) ⟨hz, its, 0, hv, Heap.get?_push_size _ rfl⟩
theorem Inv.fresh (I : Inv X pins σ H s) : H s.heap.objs.size = none := I.hok.fresh (Nat.le_refl _)
theorem Inv.lstM (I : Inv X pins σ H s) (hH : H l = some (.lst xs)) : xs.length ≤ sizeLine ∧ ∃ (its : List Value) (n : Nat), Vals xs its ∧ xs.length = its.length ∧ s.heap.get? l = some { cls := .type "list", data := .seq its.toArray n } := by
  obtain ⟨z, its, n, r, e⟩ := I.hok l _ hH
  exact ⟨z, its, n, r, r.length, e⟩
theorem notLongL {n : Nat} (h : n ≤ sizeLine) : Builtin.List.listTooLong n = false := by
  unfold Builtin.List.listTooLong
  exact decide_eq_false (by omega)
end
section
variable {X : Cx}
def rAppend : V → List V → Hp → VK → Prop := fun x vs H Q => ∃ l xs y, x = .ref l ∧ vs = [y] ∧ H l = some (.lst xs) ∧ xs.length < sizeLine ∧ Q .non (upd H l (.lst (xs ++ [y])))
theorem mt_append : MtM X "list.append" rAppend := by
  intro pins s σ H x vs v us Q I rx rv h
  obtain ⟨l, xs, y, rfl, rfl, hH, hz, q⟩ := h
  cases rx
  obtain ⟨u, rfl, ru⟩ := rv.one
  obtain ⟨z, its, n, r, hl, e⟩ := I.lstM hH
  refine call_meets F.slot_list_append ⟨_, e, rfl⟩ F.entry_list_append (F.args_list_append_2 _ _) (PySem.list_append l its.toArray n u (by rw [List.size_toArray]; omega)) ⟨e, ?_⟩
  refine ⟨.non, _, I.lset (its' := its ++ [u]) hH e (by simp) (r.append (.cons ru .nil)) ?_, rfl, q⟩
  rw [List.length_append, List.length_singleton]
  omega
def rExtend : V → List V → Hp → VK → Prop := fun x vs H Q => ∃ l b xs zs, x = .ref l ∧ vs = [.ref b] ∧ H l = some (.lst xs) ∧ H b = some (.lst zs) ∧ xs.length + zs.length ≤ sizeLine ∧ Q .non (upd H l (.lst (xs ++ zs)))
def rPop : V → List V → Hp → VK → Prop := fun x vs H Q => ∃ l xs y, x = .ref l ∧ vs = [] ∧ H l = some (.lst xs) ∧ xs[xs.length - 1]? = some y ∧ Q y (upd H l (.lst xs.dropLast))
def rPopAt : V → List V → Hp → VK → Prop := fun x vs H Q => ∃ l xs i k y, x = .ref l ∧ vs = [.int i] ∧ H l = some (.lst xs) ∧ -(2 ^ 63) ≤ i ∧ i < 2 ^ 63 ∧ seqIndex? i xs.length = some k ∧ xs[k]? = some y ∧ Q y (upd H l (.lst (xs.eraseIdx k)))
def rReverse : V → List V → Hp → VK → Prop := fun x vs H Q => ∃ l xs, x = .ref l ∧ vs = [] ∧ H l = some (.lst xs) ∧ Q .non (upd H l (.lst xs.reverse))
def rClear : V → List V → Hp → VK → Prop := fun x vs H Q => ∃ l xs, x = .ref l ∧ vs = [] ∧ H l = some (.lst xs) ∧ Q .non (upd H l (.lst []))
def rCat : R2 := fun x y H Q => ∃ l b xs zs, x = .ref l ∧ y = .ref b ∧ H l = some (.lst xs) ∧ H b = some (.lst zs) ∧ xs.length + zs.length ≤ sizeLine ∧ ∀ p, H p = none → Q (.ref p) (upd H p (.lst (xs ++ zs)))
theorem op_cat : OpR X (binaryOp .Add) rCat := by
  intro pins s σ H x y v u Q I rx ry h
  obtain ⟨l, b, xs, zs, rfl, rfl, hH, hB, hz, q⟩ := h
  cases rx
  cases ry
  obtain ⟨z, its, n, r, hl, e⟩ := I.lstM hH
  obtain ⟨z2, its2, n2, r2, hl2, e2⟩ := I.lstM hB
  refine PySem.P.add_list e e2 ?_ (by rw [List.size_toArray, List.size_toArray]; omega)
  have ea : its.toArray ++ its2.toArray = (its ++ its2).toArray := by simp
  rw [ea]
  exact ⟨.ref _, _, I.lnew (t' := s.toks) (r.append r2) (by rw [List.length_append]; omega), rfl, q _ I.fresh⟩
def rRep : R2 := fun x y H Q => ∃ l k xs, x = .ref l ∧ y = .int k ∧ H l = some (.lst xs) ∧ -(2 ^ 63) ≤ k ∧ k < 2 ^ 63 ∧ xs.length * k.toNat ≤ sizeLine ∧
  ∀ p, H p = none → Q (.ref p) (upd H p (.lst (List.replicate k.toNat xs).flatten))
theorem len_rep {α : Type} (xs : List α) (k : Nat) : (List.replicate k xs).flatten.length = k * xs.length := by
  induction k with
  | zero => simp
  | succ k ih => rw [List.replicate_succ, List.flatten_cons, List.length_append, ih, Nat.succ_mul, Nat.add_comm]
theorem op_rep : OpR X (binaryOp .Mult) rRep := by
  intro pins s σ H x y v u Q I rx ry h
  obtain ⟨l, k, xs, rfl, rfl, hH, h1, h2, hz, q⟩ := h
  cases rx
  obtain ⟨t, rfl⟩ := ry
  obtain ⟨z, its, n, r, hl, e⟩ := I.lstM hH
  have hlen : its.toArray.size * k.toNat ≤ sizeLine := by rw [List.size_toArray, ← hl]; exact hz
  have hcap : ¬ its.toArray.size * k.toNat > (2 ^ 63 - 1) / 8 := by
    have : (sizeLine : Nat) ≤ (2 ^ 63 - 1) / 8 := by decide
    omega
  have hfit : ¬ (!Builtin.List.listFitsIndex k) = true := by
    rw [fitsIndex_both h1 h2]
    exact Bool.false_ne_true
  have hlong : ¬ Builtin.List.listTooLong (its.toArray.size * k.toNat) = true := by
    rw [notLongL hlen]
    exact Bool.false_ne_true
  have hnew : List.foldl (fun x1 x2 => x1 ++ x2) #[] (List.replicate (if its.toArray.isEmpty = true then 0 else k.toNat) its.toArray) = (List.replicate k.toNat its).flatten.toArray := by
    have f0 : ∀ m : Nat, List.foldl (fun x1 x2 => x1 ++ x2) #[] (List.replicate m its.toArray) = (List.replicate m its).flatten.toArray := fun m => by
      have := foldl_rep its m []
      rw [List.nil_append] at this
      exact this
    rw [f0]
    cases its with
    | nil => simp
    | cons a r' => rw [if_neg (by simp)]
  refine wpAny_binaryOp_repeat_ref (T := "list") (U := "int") (by decide) ⟨_, e, rfl⟩ (fun s' => typeIs_int s' k t) noFill_list_mul F.fills_int_mul F.slot_int_rmul repeat_list F.slot_int_index.lookup
    (call_meets F.slot_int_rmul (typeIs_int s k t) F.entry_int_rmul (F.args_int_rmul_2 _ _) (int___rmul___int_list k t l its.toArray n)
      ⟨e, rfl, ⟨_, e, rfl⟩, call_meets F.slot_list_mul ⟨_, e, rfl⟩ F.entry_list_mul (F.args_list_mul_2 _ _) (AutoListH.list___mul___list_int_3 l its.toArray n k t hfit hcap hlong) ⟨e, ?_⟩⟩)
  rw [hnew]
  exact ⟨.ref _, _, I.lnew (t' := s.toks) (r.rep k.toNat) (by rw [len_rep, Nat.mul_comm]; exact hz), rfl, q _ I.fresh⟩
end
section
variable {prog : Program} {w : World} {A : Around} {E : Value → Shared → Prop} {s : Shared}
set_option maxRecDepth 100000 in
end
section
variable {X : Cx}
end
end L2
namespace Att
open PySem PySem.W PySem.Calls PyProof.Rows
theorem ints_of_wellAll {P : Params} {h : Heap} : ∀ (ns : List Int) (vs : List Value), WellAll P h vs (ns.map WData.int) → IntsAre vs ns := by
  intro ns
  induction ns with
  | nil =>
    intro vs w
    rw [List.map_nil] at w
    cases w
    exact .nil
  | cons n ns ih =>
    intro vs w
    rw [List.map_cons] at w
    cases w with
    | cons a b =>
      cases a
      exact .cons _ _ (ih _ b)
theorem script_of {l : OpenLaw} {n : Nat} (hn : l.most = some n) {P : Params} {h : Heap} {args : List WData} {vals : List Value}
    (hpre : l.row.toRowW.claim.pre args = true) (hwl : WellAll P h vals args) :
    ∃ a vs ns, vals = [Value.ref a] ∧ args = [WData.list (ns.map WData.int)] ∧ h.get? a = some { cls := .type "list", data := .seq vs.toArray } ∧ IntsAre vs ns ∧ ns.length ≤ n := by
  have hsh : WShape.hasAll [] args [.list .int] = true := (pre_splitW hpre).1
  have hc : l.pre.holds [] { args := args } = true := (pre_splitW hpre).2
  obtain ⟨d, r, rfl, h1, h2⟩ := hasAllW_cons hsh
  obtain rfl := hasAllW_nil h2
  obtain ⟨xs, rfl, h3⟩ := hasW_list h1
  obtain ⟨ns, rfl⟩ := items_int h3
  have hlen : ns.length ≤ n := by
    unfold OpenLaw.pre at hc
    have h4 : (WTm.not (.lt (.lit (.int (n : Int))) (.len (.arg 0)))).holds [] { args := [.list (ns.map .int)] } = true := by
      have h4 := (holds_andW hc).1
      rw [hn] at h4
      exact h4
    have h5 := condW_of h4 (w_not (w_lt w_lit (w_len_list (w_arg rfl))))
    rw [List.length_map] at h5
    refine Nat.le_of_not_lt fun q => ?_
    have q' : (n : Int) < ((ns.length : Nat) : Int) := by omega
    first
      | (rw [decide_eq_true q'] at h5; exact absurd h5 (by decide))
      | (simp at h5; omega)
  cases hwl with
  | cons w1 w2 =>
    cases w2
    cases w1 with
    | list ho hall => exact ⟨_, _, ns, rfl, rfl, ho, ints_of_wellAll ns _ hall, hlen⟩
theorem post_true (l : OpenLaw) (args : List WData) : l.row.toRowW.claim.post args (.bool true) args = true :=
  postW_of (r := l.row.toRowW) (X := (true == true))
    (show WShape.has [] (.bool true) .bool = true by first | rfl | decide | simp [WShape.has, WShape.arms, WShape.armsAll])
    (show (WTm.eq .res (.lit (.bool true))).value [] { args := args, res := some (.bool true), after := args } = some (.bool (true == true)) from w_eq_bool (w_res rfl) w_lit) rfl
theorem attach_call {l : OpenLaw} {n : Nat} {q : Program} {loose : List Str} {XP : (Str → Option Value) → Heap → Prop} {YP : World → Heap → Prop} {d : DefRec}
    (hn : l.most = some n) (hdf : d.params.defaults = [])
    (call : ∀ (w : World) (s₀ s₁ : Shared) (mg mb : Str → Option Value) (fa : Addr) (o : Obj) (pm cd doc : Value) (a : Addr) (vs : List Value) (ns : List Int),
      Ground q loose [] XP w s₀ mg mb s₁.heap → YP w s₁.heap →
      s₁.heap.get? fa = some o → o.data = .func (docDef d.name d.params d.body d.scope pm cd doc) → s₁.heap.CodeRec cd d.name → mg d.name = some (.ref fa) →
      s₁.heap.get? a = some { cls := .type "list", data := .seq vs.toArray } → IntsAre vs ns → ns.length ≤ n → s₁.gens = #[] →
      codeAny (model l.prog w) callerA (.call (.ref fa) ⟨[.ref a], []⟩) (fun r s' => r = .ok (.ret (.bool true)) ∧ OldK s₁.heap s'.heap ∧ s'.os = s₁.os ∧ AllBare s'.gens) s₁) :
    WalkO q loose XP YP l.row.toRowW d [] (fun f vs => PySem.call f vs) := by
  intro w s₀ s₁ mg mb G Y fa o pm cd doc dV kV ho hd hcd hD hmg hg args vals as hpre hlay hrd hwl hlo
  obtain rfl : dV = .none := Dflts.none hD hdf
  obtain rfl : kV = .none := Dflts.noKw hD
  obtain ⟨a, vs, ns, rfl, rfl, hobj, hints, hlen⟩ := script_of hn hpre hwl
  refine enter_call (codeAny_mono (call w s₀ s₁ mg mb fa o pm cd doc a vs ns G Y ho (fd_plain hd) hcd hmg hobj hints hlen hg) fun r s' hq => ?_)
  obtain ⟨rfl, h2, h3, h4⟩ := hq
  exact ⟨.inl ⟨.bool true, .bool true, [], rfl, fun _ => rfl, .bool true, post_true l _, fun _ => ⟨List.Pairwise.nil, fun _ hm => (nomatch hm)⟩⟩, h2, h3, h4⟩
section
variable {prog : Program} {w : World} {A : Around} {E : Value → Shared → Prop} {s : Shared} {K : Frag}
def noObjs (h : Heap) : Heap := { h with objs := #[] }
def ledger (h : Heap) (L d : Addr) : List (Addr × Obj) := (List.range h.objs.size).filterMap fun a => if a = L ∨ a = d then none else (h.get? a).map fun o => (a, o)
end
end Att
namespace L2
open PySem PySem.Spec PyProof.Rows
theorem vals_ints : ∀ {vs : List Value} {ns : List Int}, IntsAre vs ns → Vals (ns.map V.int) vs
  | _, _, .nil => .nil
  | _, _, .cons n t h => .cons ⟨t, rfl⟩ (vals_ints h)
def Only (H : Hp) : Prop := ∀ b, H b = none ∨ ∃ o xs, H b = some (.frz o (.lst xs))
theorem law_call {P : Program} {w : World} {K : PySem.W.Frag} {mg mb : Str → Option Value} {CX : CXT} {k : Nat} {fa a : Addr} {fd : FuncData} {x : Str} {sp : Sp} {s₁ : Shared} {vs : List Value} {ns : List Int}
    (KX : K.In s₁.heap) (hns : s₁.heap.Ns mainGlobals mg) (hb : s₁.heap.Ns builtinsNs mb) (hbb : ∀ x : Str, x ≠ "__name__" → mb x = bootBuiltins x) (hlim : s₁.heap.NoLimit) (hg : s₁.gens = #[])
    (ha : s₁.heap.get? a = some { cls := .type "list", data := .seq vs.toArray }) (hi : IntsAre vs ns) (hl : ns.length ≤ sizeLine) (hr : Room k callerA)
    (F : ∀ base : Heap, K.In base → base.Ns mainGlobals mg → FnOk P w K mg base CX k fa fd [x] sp) (hbind : ∀ (s : Shared) (u : Value), BindsTo s fd ⟨[u], []⟩ [(x, u)])
    (hsp : ∀ H : Hp, Only H → SqL K H a (ns.map V.int) → sp [.ref a] H (fun v _ => v = .bl true) fun _ _ _ => False)
    (hCX : ∀ H e s', CX [] H s₁ (fun _ _ _ => False) e s' → False) :
    codeAny (model P w) callerA (.call (.ref fa) ⟨[.ref a], []⟩) (fun r s' => r = .ok (.ret (.bool true)) ∧ OldK s₁.heap s'.heap ∧ s'.os = s₁.os ∧ AllBare s'.gens) s₁ := by
  have rv := vals_ints hi
  have lenV := hi.length
  have core : ∀ H : Hp, Only H → SqL K H a (ns.map V.int) → HOk P w H s₁.heap → (∀ b, H b ≠ none → b = a) → (H a ≠ none → K.lookup a = none) →
      codeAny (model P w) callerA (.call (.ref fa) ⟨[.ref a], []⟩) (fun r s' => r = .ok (.ret (.bool true)) ∧ OldK s₁.heap s'.heap ∧ s'.os = s₁.os ∧ AllBare s'.gens) s₁ := by
    intro H hO hS hok hA hK
    have base_of : ∀ {b : Addr} {o : Obj}, s₁.heap.get? b = some o → H b = none → (hidT s₁.heap H).get? b = some o := fun e n => hidT_get e n
    have noA : ∀ {b : Addr} {o : Obj} {es : Array DictEntry} {ep : Nat}, s₁.heap.get? b = some o → o.data = .dict es ep → H b = none := fun {b o es ep} e d => by
      cases q : H b with
      | none => rfl
      | some u =>
        have e' : b = a := hA b (by rw [q]; simp)
        subst e'
        rw [ha] at e; cases e
        have d' : Data.seq vs.toArray _ = Data.dict es ep := d
        cases d'
    have nsK : ∀ {b : Addr} {m : Str → Option Value}, s₁.heap.Ns b m → (hidT s₁.heap H).Ns b m := fun {b m} ⟨o, es, ep, e, d, r⟩ => ⟨o, es, ep, base_of e (noA e d), d, r⟩
    have hKb : K.In (hidT s₁.heap H) := fun b o e => base_of (KX b o e) (by
      cases q : H b with
      | none => rfl
      | some u =>
        have e' : b = a := hA b (by rw [q]; simp)
        subst e'
        rw [hK (by rw [q]; simp)] at e; cases e)
    have hM : Mod K mg (hidT s₁.heap H) := ⟨hKb, nsK hns, ⟨mb, nsK hb, hbb⟩, let ⟨mc, h1, h2⟩ := hlim; ⟨mc, nsK h1, h2⟩⟩
    have e0 : Env0 P w K mg (hidT s₁.heap H) callerA [] s₁ H := ⟨rfl, hM, fun b o e => of_hidT e, Nat.le_of_eq (hidT_size _ _), trivial, fun b hb => absurd (show b ∈ ([] : List Addr) from hb) (by simp), hok, .of_eq hg⟩
    refine codeAny_mono ((F _ hKb (nsK hns)).run callerA [] s₁ H ⟨[.ref a], []⟩ [.ref a] [.ref a] _ _ hr e0 (hbind s₁ (.ref a)) (.cons rfl .nil) (hsp H hO hS)) fun r s' h => ?_
    cases r with
    | error e => exact (hCX H e s' h).elim
    | ok fl =>
      cases fl with
      | next => exact False.elim h
      | brk => exact False.elim h
      | cont => exact False.elim h
      | ret u =>
        obtain ⟨v, H', os, bare, un, hok', r', q⟩ := h
        have q' : v = .bl true := q
        subst q'
        obtain rfl : u = Value.bool true := r'
        refine ⟨rfl, OldK.of_keep fun b o e => ?_, os, bare⟩
        cases q : H b with
        | none => exact un.keep b o e q (by intro z; exact absurd (show b ∈ ([] : List Addr) from z) (by simp)) (by simp)
        | some u =>
          rcases hO b with z | ⟨ob, xs, z⟩
          · rw [q] at z; cases z
          · have z2 := un.frzs b ob _ z
            obtain ⟨e1, _⟩ := hok b _ z
            obtain ⟨e2, _⟩ := hok' b _ z2
            rw [e] at e1; cases e1
            exact e2
  cases hk : K.lookup a with
  | some o =>
    have e := KX a o hk
    rw [ha] at e
    cases e
    refine core (fun _ => none) (fun _ => .inl rfl) (.inr ⟨_, vs.toArray, _, hk, rfl, rfl, rfl, by rw [List.size_toArray, lenV]; exact hl, by simpa using rv⟩) (fun b u z => by have z' : (none : Option HO) = some u := z; cases z') (fun b z => absurd rfl z) fun z => absurd rfl z
  | none =>
    refine core (fun b => if b = a then some (.frz { cls := .type "list", data := .seq vs.toArray } (.lst (ns.map V.int))) else none) (fun b => ?_) (.inl (.inr ⟨{ cls := .type "list", data := .seq vs.toArray }, if_pos rfl⟩)) (fun b u z => ?_) (fun b z => ?_) fun _ => hk
    · by_cases hb : b = a
      · exact .inr ⟨_, _, if_pos hb⟩
      · exact .inl (if_neg hb)
    · by_cases hb : b = a
      · have z' := (if_pos hb).symm.trans z
        cases z'
        subst hb
        exact ⟨ha, by rw [List.length_map]; exact hl, vs, _, rv, ha⟩
      · have z' := (if_neg hb).symm.trans z
        cases z'
    · by_cases hb : b = a
      · exact hb
      · exact absurd (if_neg hb) z
end L2
namespace L2
open PySem PySem.Spec PyProof.Rows
abbrev KOf {K : PySem.W.Frag} {h : Heap} (_ : K.In h) : PySem.W.Frag := K
theorem walk_of {l : PySem.W.OpenLaw} {n k : Nat} {q : Program} {loose : List Str} {XP : (Str → Option Value) → Heap → Prop} {YP : World → Heap → Prop} {d : DefRec} {K : Params → PySem.W.Frag} {CX : World → CXT} {sp : World → Sp} {x : Str}
    (hn : l.most = some n) (hn2 : n ≤ sizeLine) (hdf : d.params.defaults = []) (hr : Room k callerA)
    (hY : ∀ (w : World) (h : Heap), YP w h → (K w.params).In h)
    (F : ∀ (w : World) (mg : Str → Option Value) (fa : Addr) (h : Heap), (K w.params).In h → h.Ns mainGlobals mg → mg d.name = some (.ref fa) →
      ∃ fd : FuncData, (∀ (s : Shared) (u : Value), BindsTo s fd ⟨[u], []⟩ [(x, u)]) ∧
        ∀ base : Heap, (K w.params).In base → base.Ns mainGlobals mg → FnOk l.prog w (K w.params) mg base (CX w) k fa fd [x] (sp w))
    (hsp : ∀ (w : World) (H : Hp) (a : Addr) (ns : List Int), ns.length ≤ n → Only H → SqL (K w.params) H a (ns.map V.int) → sp w [.ref a] H (fun v _ => v = .bl true) fun _ _ _ => False)
    (hCX : ∀ (w : World) (H : Hp) (s : Shared) (e : Value) (s' : Shared), CX w [] H s (fun _ _ _ => False) e s' → False) :
    PySem.W.WalkO q loose XP YP l.row.toRowW d [] (fun f vs => PySem.call f vs) := by
  refine Att.attach_call hn hdf fun w s₀ s₁ mg mb fa o pm cd doc a vs ns G Y ho hd hcd hmg hobj hints hlen hg => ?_
  have KX := hY w _ Y
  obtain ⟨fd, hb, hF⟩ := F w mg fa _ KX G.T.g hmg
  exact law_call KX G.T.g G.T.b G.T.builtins G.T.nolimit hg hobj hints (Nat.le_trans hlen hn2) hr hF hb (fun H hO hS => hsp w H a ns hlen hO hS) fun H e s' => hCX w H s₁ e s'
end L2
namespace L2
open PySem PySem.Spec PyProof.Rows
def inClass (s : Stmt) (j : Nat) : Stmt := match s with
  | .ClassDef _ _ _ body _ _ _ _ _ _ _ => body.getD j (.Pass ⟨0, 0, 0, 0⟩)
  | _ => .Pass ⟨0, 0, 0, 0⟩
def defArgs (s : Stmt) : Arguments := match s with
  | .FunctionDef _ a _ _ _ _ _ _ _ _ => a
  | _ => { posonlyargs := [], args := [], vararg := none, kwonlyargs := [], kw_defaults := [], kwarg := none, defaults := [] }
def defBody (s : Stmt) : List Stmt := match s with
  | .FunctionDef _ _ b _ _ _ _ _ _ _ => b
  | _ => []
def defScope (s : Stmt) : Scope := match s with
  | .FunctionDef _ _ _ _ _ _ sc _ _ _ => sc
  | _ => { kind := .function, names := [], isGenerator := false, isCoroutine := false }
abbrev CX0 : CXT := fun _ _ _ _ _ _ => False
abbrev E0 : XK := fun _ _ _ => False
theorem pass0 {X : Cx} : Passes CX0 X E0 := fun _ _ _ _ _ _ _ h => h.elim
structure Fun (K : PySem.W.Frag) (x qual : Str) (st : Stmt) (f : Addr) (fd : FuncData) : Prop where
  ex : ∃ (oc : Value) (od : Option Addr) (kV doc pm : Value) (an : Option Addr) (cdv ct : Value) (osl : Array (Option Value)),
    fd = PySem.W.fnOf x qual (defArgs st) (defBody st) (defScope st) .none kV doc pm an cdv ct ∧ K.lookup f = some ⟨oc, od, .func fd, osl⟩ ∧ PySem.W.codeIn K cdv qual = true
  kp : PySem.W.keepIn K (.ref f) = true
section
variable {P : Program} {w : World} {K : PySem.W.Frag} {mg : Str → Option Value} {base : Heap}
theorem Fun.ok {x qual : Str} {st : Stmt} {f : Addr} {fd : FuncData} {N ps : List Str} {k : Nat} {sp : Sp} (F : Fun K x qual st f fd) (S : FnScope N ps (defScope st)) (len : ∀ vs H Q E, sp vs H Q E → vs.length = ps.length)
    (hbody : ∀ (cdv : Value) (A : Around) (outer : List Env) (s : Shared) (H : Hp) (vs : List V) (Q : VK) (E : XK), Room k (A.deeper (envOfC qual (defScope st) s.heap.objs.size f cdv)) → sp vs H Q E →
      ∃ t, PSs (cxOf CX0 P w K mg base N qual (defScope st) f cdv A outer s H E).nox (defBody st) t ∧ t { nx := fun _ H' => Q .non H', rt := Q } (start N vs) H) : FnOk P w K mg base CX0 (k + 1) f fd ps sp := by
  obtain ⟨oc, od, kV, doc, pm, an, cdv, ct, osl, rfl, lk, hcd⟩ := F.ex
  refine fn_of lk hcd S len fun A outer s H vs Q E hr hsp => ?_
  obtain ⟨t, h, q⟩ := hbody cdv A outer s H vs Q E hr hsp
  exact ⟨t, h.nox, q⟩
theorem Fun.binds {x qual : Str} {st : Stmt} {f : Addr} {fd : FuncData} {ps : List Str} (F : Fun K x qual st f fd)
    (h : ∀ (kV doc pm : Value) (an : Option Addr) (cdv ct : Value) (us : List Value), us.length = ps.length → bindArgs (PySem.W.fnOf x qual (defArgs st) (defBody st) (defScope st) .none kV doc pm an cdv ct) ⟨us, []⟩ = pure (ps.zip us)) : Binds K fd ps [] := by
  obtain ⟨oc, od, kV, doc, pm, an, cdv, ct, osl, rfl, lk, hcd⟩ := F.ex
  exact .all (h kV doc pm an cdv ct)
theorem fun_mk {x qual : Str} {st : Stmt} {f : Addr} {oc : Value} {od an : Option Addr} {osl : Array (Option Value)} {kV doc pm cdv ct : Value} (l : K.lookup f = some ⟨oc, od, .func (PySem.W.fnOf x qual (defArgs st) (defBody st) (defScope st) .none kV doc pm an cdv ct), osl⟩)
    (c : PySem.W.codeIn K cdv qual = true) (k : PySem.W.keepIn K (.ref f) = true) : Fun K x qual st f (PySem.W.fnOf x qual (defArgs st) (defBody st) (defScope st) .none kV doc pm an cdv ct) := ⟨⟨oc, od, kV, doc, pm, an, cdv, ct, osl, rfl, l, c⟩, k⟩
end
section
variable {X : Cx}
theorem pv (i : Nat) {x : Str} {pos : Pos} (hN : X.N[i]? = some x := by rfl) (hv : Vis X.env.scope x := by first | exact Or.inl rfl | exact Or.inr (Or.inl rfl) | exact Or.inr (Or.inr rfl)) (hd : (x == ("__debug__" : Str)) = false := by decide)
    (hcd : (x == ("__classdict__" : Str)) = false := by decide) : PE X (.Name x pos) (tVar i) := pe_var hN hv hd hcd
end
theorem iteF {A B : Prop} (h : B) : if false = true then A else B := by
  rw [if_neg Bool.false_ne_true]
  exact h
theorem iteT {A B : Prop} (h : A) : if true = true then A else B := by
  rw [if_pos rfl]
  exact h
theorem ite2 {c A B : Prop} [Decidable c] (h1 : c → A) (h2 : ¬ c → B) : if c then A else B := by
  by_cases h : c
  · rw [if_pos h]
    exact h1 h
  · rw [if_neg h]
    exact h2 h
def Same (H H' : Hp) : Prop := ∀ b o, H b = some o → H' b = some o
theorem Same.refl (H : Hp) : Same H H := fun _ _ h => h
theorem Same.trans {H H1 H2 : Hp} (a : Same H H1) (b : Same H1 H2) : Same H H2 := fun c o h => b c o (a c o h)
theorem Same.free {H H' : Hp} (e : Same H H') {l : Addr} (h : H' l = Option.none) : H l = Option.none := by
  cases q : H l with
  | none => rfl
  | some o =>
    rw [e l o q] at h
    cases h
theorem Same.seq {K : PySem.W.Frag} {H H' : Hp} {a : Addr} {xs : List V} (e : Same H H') (h : SqL K H a xs) : SqL K H' a xs := by
  rcases h with (h | ⟨o, h⟩) | h
  · exact .inl (.inl (e _ _ h))
  · exact .inl (.inr ⟨o, e _ _ h⟩)
  · exact .inr h
end L2
namespace L2
open PySem PySem.Spec PyProof.Rows
section
variable {κ : Type} [DecidableEq κ]
def valV (kvs : List (κ × V)) (k : κ) : Option V := (kvs.find? fun kv => decide (kv.1 = k)).map (·.2)
def putK (kvs : List (κ × V)) (k : κ) (v : V) : List (κ × V) :=
  if (kvs.any fun kv => decide (kv.1 = k)) = true then kvs.map (fun kv => if kv.1 = k then (kv.1, v) else kv) else kvs ++ [(k, v)]
def dropK (kvs : List (κ × V)) (k : κ) : List (κ × V) := kvs.filter fun kv => decide (kv.1 ≠ k)
theorem valV_pos {p : κ × V} {r : List (κ × V)} {k : κ} (e : p.1 = k) : valV (p :: r) k = some p.2 := by simp [valV, List.find?_cons, e]
theorem valV_neg {p : κ × V} {r : List (κ × V)} {k : κ} (e : ¬ p.1 = k) : valV (p :: r) k = valV r k := by simp [valV, List.find?_cons, e]
theorem valV_any (k : κ) : ∀ kvs : List (κ × V), (kvs.any fun kv => decide (kv.1 = k)) = (valV kvs k).isSome
  | [] => rfl
  | p :: r => by
    rw [List.any_cons]
    by_cases e : p.1 = k
    · simp only [valV_pos e, decide_eq_true e, Bool.true_or, Option.isSome_some]
    · rw [valV_neg e, decide_eq_false e, Bool.false_or]; exact valV_any k r
theorem valV_map (k j : κ) (y : V) : ∀ kvs : List (κ × V), valV (kvs.map fun kv => if kv.1 = k then (kv.1, y) else kv) j = (valV kvs j).map fun x => if j = k then y else x
  | [] => rfl
  | p :: r => by
    have ih := valV_map k j y r
    rw [List.map_cons]
    by_cases h : p.1 = k
    · rw [if_pos h]
      by_cases e : p.1 = j
      · rw [valV_pos (p := (p.1, y)) e, valV_pos e, Option.map_some, if_pos (e.symm.trans h)]
      · rw [valV_neg (p := (p.1, y)) e, valV_neg e, ih]
    · rw [if_neg h]
      by_cases e : p.1 = j
      · rw [valV_pos (p := p) e, valV_pos e, Option.map_some, if_neg (fun z => h (e.trans z))]
      · rw [valV_neg (p := p) e, valV_neg e, ih]
theorem valV_snoc (k j : κ) (y : V) : ∀ kvs : List (κ × V), valV kvs k = none → valV (kvs ++ [(k, y)]) j = if j = k then some y else valV kvs j
  | [], _ => by
    by_cases e : k = j
    · rw [if_pos e.symm]; exact valV_pos (p := (k, y)) e
    · rw [if_neg (fun z => e z.symm)]; exact valV_neg (p := (k, y)) e
  | p :: r, hn => by
    rw [List.cons_append]
    have hk : ¬ p.1 = k := fun z => by rw [valV_pos z] at hn; cases hn
    rw [valV_neg hk] at hn
    have ih := valV_snoc k j y r hn
    by_cases e : p.1 = j
    · rw [valV_pos e, valV_pos e, if_neg (fun z => hk (e.trans z))]
    · rw [valV_neg e, valV_neg e, ih]
theorem valV_put (kvs : List (κ × V)) (k j : κ) (y : V) : valV (putK kvs k y) j = if j = k then some y else valV kvs j := by
  unfold putK
  by_cases a : (kvs.any fun kv => decide (kv.1 = k)) = true
  · rw [if_pos a, valV_map]
    rw [valV_any] at a
    by_cases e : j = k
    · obtain ⟨x, hx⟩ := Option.isSome_iff_exists.mp a
      rw [if_pos e, e, hx, Option.map_some, if_pos rfl]
    · rw [if_neg e]
      cases valV kvs j with
      | none => rfl
      | some x => rw [Option.map_some, if_neg e]
  · rw [if_neg a]
    refine valV_snoc k j y kvs ?_
    rw [valV_any] at a
    cases q : valV kvs k with
    | none => rfl
    | some x => rw [q] at a; exact (a rfl).elim
theorem length_putK (kvs : List (κ × V)) (k : κ) (v : V) : (putK kvs k v).length ≤ kvs.length + 1 := by
  unfold putK
  split
  · rw [List.length_map]; omega
  · rw [List.length_append, List.length_cons, List.length_nil]; omega
theorem RelO.isSome_eq {o : Option V} {u : Option Value} (r : RelO o u) : o.isSome = u.isSome := by
  cases o with
  | none => cases u with
    | none => rfl
    | some _ => exact (show False from r).elim
  | some _ => cases u with
    | none => exact (show False from r).elim
    | some _ => rfl
theorem RelO.getD {o : Option V} {u : Option Value} {d : V} {d' : Value} (r : RelO o u) (rd : RelV d d') : RelV (o.getD d) (u.getD d') := by
  cases o with
  | none => cases u with
    | none => exact rd
    | some _ => exact (show False from r).elim
  | some _ => cases u with
    | none => exact (show False from r).elim
    | some _ => exact r
theorem KV.val {kvs : List (κ × V)} {vs : List (κ × Value)} (r : KV kvs vs) (k : κ) : RelO (valV kvs k) (valueAt vs k) := by
  unfold KV at r
  induction r with
  | nil => exact True.intro
  | @cons p q ps qs h t ih =>
    obtain ⟨h1, h2⟩ := h
    by_cases e : p.1 = k
    · have e' : q.1 = k := h1.symm.trans e
      have b : valueAt (q :: qs) k = some q.2 := by simp [valueAt, List.find?_cons, e']
      rw [valV_pos e, b]; exact h2
    · have e' : ¬ q.1 = k := fun z => e (h1.trans z)
      have b : valueAt (q :: qs) k = valueAt qs k := by simp [valueAt, List.find?_cons, e']
      rw [valV_neg e, b]; exact ih
theorem KV.any {kvs : List (κ × V)} {vs : List (κ × Value)} (r : KV kvs vs) (k : κ) : (kvs.any fun kv => decide (kv.1 = k)) = vs.any fun kv => decide (kv.1 = k) := by
  unfold KV at r
  induction r with
  | nil => rfl
  | cons h t ih => rw [List.any_cons, List.any_cons, ih, h.1]
theorem KV.repl {kvs : List (κ × V)} {vs : List (κ × Value)} (r : KV kvs vs) (k : κ) {y : V} {u : Value} (ry : RelV y u) :
    KV (kvs.map fun kv => if kv.1 = k then (kv.1, y) else kv) (vs.map fun kv => if kv.1 = k then (kv.1, u) else kv) := by
  unfold KV at r ⊢
  induction r with
  | nil => exact .nil
  | @cons p q ps qs h t ih =>
    rw [List.map_cons, List.map_cons]
    refine .cons ?_ ih
    obtain ⟨h1, h2⟩ := h
    by_cases e : p.1 = k
    · rw [if_pos e, if_pos (h1.symm.trans e)]; exact ⟨h1, ry⟩
    · rw [if_neg e, if_neg (fun z => e (h1.trans z))]; exact ⟨h1, h2⟩
theorem KV.put {kvs : List (κ × V)} {vs : List (κ × Value)} (r : KV kvs vs) (k : κ) {y : V} {u : Value} (ry : RelV y u) : KV (putK kvs k y) (stored vs k u) := by
  unfold putK stored
  rw [r.any k]
  by_cases e : (vs.any fun kv => decide (kv.1 = k)) = true
  · rw [if_pos e, if_pos e]; exact r.repl k ry
  · rw [if_neg e, if_neg e]; exact Paired.snoc r ⟨rfl, ry⟩
theorem KV.drop {kvs : List (κ × V)} {vs : List (κ × Value)} (r : KV kvs vs) (k : κ) : KV (dropK kvs k) (without vs k) := by
  unfold KV at r ⊢
  unfold dropK without
  induction r with
  | nil => exact .nil
  | @cons p q ps qs h t ih =>
    obtain ⟨h1, h2⟩ := h
    rw [List.filter_cons, List.filter_cons]
    by_cases e : p.1 = k
    · have a : ¬ decide (p.1 ≠ k) = true := by simp [e]
      have b : ¬ decide (q.1 ≠ k) = true := by simp [h1.symm.trans e]
      rw [if_neg a, if_neg b]; exact ih
    · have e' : ¬ q.1 = k := fun z => e (h1.trans z)
      have a : decide (p.1 ≠ k) = true := by simp [e]
      have b : decide (q.1 ≠ k) = true := by simp [e']
      rw [if_pos a, if_pos b]; exact .cons ⟨h1, h2⟩ ih
theorem KV.keys {kvs : List (κ × V)} {vs : List (κ × Value)} (r : KV kvs vs) : kvs.map (·.1) = vs.map (·.1) := by
  unfold KV at r
  induction r with
  | nil => rfl
  | cons h t ih => rw [List.map_cons, List.map_cons, ih, h.1]
theorem KV.length {kvs : List (κ × V)} {vs : List (κ × Value)} (r : KV kvs vs) : kvs.length = vs.length := Paired.length r
end
theorem kV_is {P : Program} {w : World} {k : Key} {u : Value} (r : RelV (kV k) u) : (mixKind P w).is k u = true := by
  cases k with
  | inl i => obtain ⟨t, e⟩ := (show ∃ t, u = Value.int i t from r); subst e; exact mixKind_int P w i t
  | inr x => obtain ⟨t, e⟩ := (show ∃ t, u = Value.str x t from r); subst e; exact mixKind_str P w x t
abbrev KT (H : Hp) : List (List Key × V) → List (List Key × Addr × Value) → Prop := Paired fun p q => p.1 = q.1 ∧ H q.2.1 = some (.tup (p.1.map kV)) ∧ RelV p.2 q.2.2
theorem KT.val {H : Hp} {kvs : List (List Key × V)} {xs : List (List Key × Addr × Value)} (r : KT H kvs xs) (k : List Key) : RelO (valV kvs k) ((atKey xs k).map (·.2)) := by
  induction r with
  | nil => exact True.intro
  | @cons p q ps qs h t ih =>
    obtain ⟨h1, _, h2⟩ := h
    by_cases e : p.1 = k
    · have e' : q.1 = k := h1.symm.trans e
      have b : atKey (q :: qs) k = some q.2 := by simp [atKey, List.find?_cons, e']
      rw [valV_pos e, b]; exact h2
    · have e' : ¬ q.1 = k := fun z => e (h1.trans z)
      have b : atKey (q :: qs) k = atKey qs k := by simp [atKey, List.find?_cons, e']
      rw [valV_neg e, b]; exact ih
theorem KT.repl {H : Hp} {kvs : List (List Key × V)} {xs : List (List Key × Addr × Value)} (r : KT H kvs xs) (k : List Key) {y : V} {u : Value} (ry : RelV y u) :
    KT H (kvs.map fun kv => if kv.1 = k then (kv.1, y) else kv) (xs.map (putAt k u)) := by
  induction r with
  | nil => exact .nil
  | @cons p q ps qs h t ih =>
    rw [List.map_cons, List.map_cons]
    refine .cons ?_ ih
    obtain ⟨h1, h2, h3⟩ := h
    unfold putAt
    by_cases e : p.1 = k
    · rw [if_pos e, if_pos (h1.symm.trans e)]; exact ⟨h1, h2, ry⟩
    · rw [if_neg e, if_neg (fun z => e (h1.trans z))]; exact ⟨h1, h2, h3⟩
theorem KT.put {H : Hp} {kvs : List (List Key × V)} {xs : List (List Key × Addr × Value)} (r : KT H kvs xs) (k : List Key) {b : Addr} {y : V} {u : Value} (hb : H b = some (.tup (k.map kV))) (ry : RelV y u) :
    KT H (putK kvs k y) (storedH xs k b u) := by
  have e : (kvs.any fun kv => decide (kv.1 = k)) = (atKey xs k).isSome := by
    rw [valV_any, (r.val k).isSome_eq, Option.isSome_map]
  unfold putK storedH
  rw [e]
  by_cases q : (atKey xs k).isSome = true
  · rw [if_pos q, if_pos q]; exact r.repl k ry
  · rw [if_neg q, if_neg q]; exact Paired.snoc r ⟨rfl, hb, ry⟩
theorem KT.keeps {H H' : Hp} {kvs : List (List Key × V)} {xs : List (List Key × Addr × Value)} (r : KT H kvs xs) (ht : ∀ b ys, H b = some (.tup ys) → H' b = some (.tup ys)) : KT H' kvs xs :=
  Paired.mapP r fun _ _ z => ⟨z.1, ht _ _ z.2.1, z.2.2⟩
section
variable {P : Program} {w : World} {H : Hp} {h : Heap} {a : Addr}
end
def DGet (H : Hp) (a : Addr) (y : V) (r : Option V) : Prop :=
  (∃ kvs k, Rd H a (.dK kvs) ∧ y = kV k ∧ r = valV kvs k) ∨ ∃ kvs k b, Rd H a (.dT kvs) ∧ y = .ref b ∧ H b = some (.tup (k.map kV)) ∧ r = valV kvs k
def DPut (H : Hp) (a : Addr) (y v : V) (H' : Hp) : Prop :=
  (∃ kvs k, H a = some (.dK kvs) ∧ y = kV k ∧ kvs.length < sizeLine ∧ H' = upd H a (.dK (putK kvs k v))) ∨
  ∃ kvs k b, H a = some (.dT kvs) ∧ y = .ref b ∧ H b = some (.tup (k.map kV)) ∧ kvs.length < sizeLine ∧ H' = upd H a (.dT (putK kvs k v))
theorem DGet.k {H : Hp} {a : Addr} {kvs : List (Key × V)} {k : Key} (e : H a = some (.dK kvs)) : DGet H a (kV k) (valV kvs k) := .inl ⟨kvs, k, .inl e, rfl, rfl⟩
theorem DGet.t {H : Hp} {a b : Addr} {kvs : List (List Key × V)} {k : List Key} (e : H a = some (.dT kvs)) (eb : H b = some (.tup (k.map kV))) : DGet H a (.ref b) (valV kvs k) := .inr ⟨kvs, k, b, .inl e, rfl, eb, rfl⟩
theorem DPut.k {H : Hp} {a : Addr} {kvs : List (Key × V)} {k : Key} {v : V} (e : H a = some (.dK kvs)) (hl : kvs.length < sizeLine) : DPut H a (kV k) v (upd H a (.dK (putK kvs k v))) := .inl ⟨kvs, k, e, rfl, hl, rfl⟩
theorem DPut.t {H : Hp} {a b : Addr} {kvs : List (List Key × V)} {k : List Key} {v : V} (e : H a = some (.dT kvs)) (eb : H b = some (.tup (k.map kV))) (hl : kvs.length < sizeLine) :
    DPut H a (.ref b) v (upd H a (.dT (putK kvs k v))) := .inr ⟨kvs, k, b, e, rfl, eb, hl, rfl⟩
section
variable {X : Cx} {pins : List (Addr × Obj)} {σ : St} {H : Hp} {s : Shared} {a : Addr} {y v : V} {u r : Value} {o : Option V} {A : Around} {E : Value → Shared → Prop}
theorem Inv.big (I : Inv X pins σ H s) : sysModules < s.heap.objs.size := by
  have h : mainGlobals < s.heap.objs.size := (I.mod.glob.keeps I.bk).lt
  exact Nat.lt_trans (by decide) h
theorem d_write {h' : Heap} {t' : Nat} {ob : HO} (I : Inv X pins σ H s) (mu : Mut (H a)) (hs : Heap.SameBut a s.heap h') (he : ∃ q, h'.get? a = some q) (new : ObjOk X.prog X.w (upd H a ob) h' a ob) :
    Inv X pins σ (upd H a ob) { s with heap := h', toks := t' } :=
  I.write (x := a) (e := a) mu (.inl rfl) (fun b q hb z => (hs.2 b hb).trans z) he new
end
section
variable {X : Cx} {pins : List (Addr × Obj)} {σ : St} {H : Hp} {s : Shared} {a : Addr} {kvs : List (Key × V)} {k : Key} {u : Value} {A : Around} {E : Value → Shared → Prop}
end
def NoSl (i : Expr) : Prop := ∀ ov iv, subscripted i false ov iv = operate [ov, iv] (getItem ov iv)
theorem subD_of {prog : Program} {w : World} {A : Around} {E : Value → Shared → Prop} {s : Shared} {env : Env} {value slice : Expr} {pos : Pos} {T id : String} {Q : Value → Shared → Prop}
    (hl : typeLookup (.type T) "__getitem__" = pure (some (.builtin id))) (hs : NoSl slice)
    (h : wpAny (model prog w) A (eval value env) (fun o s₁ => wpAny (model prog w) A (eval slice env) (fun i s₂ => s₂.TypeIs o T ∧ wpAny (model prog w) A (getItem o i) Q E s₂) E s₁) E s) :
    wpAny (model prog w) A (eval (.Subscript value slice pos) env) Q E s := by
  refine Subscript_ (wpAny_mono h (fun o s₁ h₁ => wpAny_mono h₁ (fun i s₂ h₂ => ?_) fun _ _ x => x) fun _ _ x => x)
  obtain ⟨hT, h₂⟩ := h₂
  unfold subscriptTail
  refine wpAny_bind ?_
  rw [getitemInPython_of_ne hT.not_modules]
  refine wpAny_bind (wpAny_specialOf hT hl ?_)
  have fin : wpAny (model prog w) A (subscripted slice false o i) (fun r s₃ => wpAny (model prog w) A (letTemporaryGo value o r >>= fun _ => pure r) Q E s₃) E s₂ := by
    rw [hs o i]
    exact wpAny_operating (wpAny_mono h₂ (fun r s₃ h₃ => wpAny_bind (wpAny_letTemporaryGo (wpAny_pure h₃))) fun _ _ x => x)
  first
    | exact wpAny_pure (wpAny_bind fin)
    | exact wpAny_bind (wpAny_pure (wpAny_bind fin))
    | exact wpAny_bind fin
def tDGet (td ty : TE) : TE := fun σ H Q => td σ H fun x H1 => ty σ H1 fun y H2 => ∃ a v, x = .ref a ∧ DGet H2 a y (some v) ∧ Q v H2
def tDIn (ty td : TE) : TE := fun σ H Q => ty σ H fun y H1 => td σ H1 fun x H2 => ∃ a o, x = .ref a ∧ DGet H2 a y o ∧ Q (.bl o.isSome) H2
def tDNotIn (ty td : TE) : TE := fun σ H Q => ty σ H fun y H1 => td σ H1 fun x H2 => ∃ a o, x = .ref a ∧ DGet H2 a y o ∧ Q (.bl (!o.isSome)) H2
def sDPut (td ty tv : TE) : TS := fun D σ H => tv σ H fun v H1 => td σ H1 fun x H2 => ty σ H2 fun y H3 => ∃ a H4, x = .ref a ∧ DPut H3 a y v H4 ∧ D.nx σ H4
def sDAug (td ty tv : TE) (rd : V → V → Hp → VK → Prop) : TS := fun D σ H => td σ H fun x H1 => ty σ H1 fun y H2 => ∃ a v, x = .ref a ∧ DGet H2 a y (some v) ∧
  tv σ H2 fun y2 H3 => rd v y2 H3 fun z H4 => ∃ H5, DPut H4 a y z H5 ∧ D.nx σ H5
def sDDel (td ty : TE) : TS := fun D σ H => td σ H fun x H1 => ty σ H1 fun y H2 => ∃ a kvs k, x = .ref a ∧ H2 a = some (.dK kvs) ∧ y = kV k ∧ (valV kvs k).isSome = true ∧ D.nx σ (upd H2 a (.dK (dropK kvs k)))
section
variable {X : Cx} {o i e value : Expr} {pos pos' tpos : Pos} {td ty tv : TE}
end
def tDNewK : TE := fun _ H Q => ∀ p, H p = none → Q (.ref p) (upd H p (.dK []))
def tDNewT : TE := fun _ H Q => ∀ p, H p = none → Q (.ref p) (upd H p (.dT []))
section
variable {X : Cx} {pos : Pos}
end
def tPairs : List (TE × TE) → St → Hp → (List (V × V) → Hp → Prop) → Prop
  | [], _, H, Q => Q [] H
  | (tk, tv) :: r, σ, H, Q => tk σ H fun x H1 => tv σ H1 fun y H2 => tPairs r σ H2 fun ps H3 => Q ((x, y) :: ps) H3
abbrev VV : List (V × V) → List (Value × Value) → Prop := Paired fun p q => RelV p.1 q.1 ∧ RelV p.2 q.2
def PPs (X : Cx) (pos : Pos) (keys : List (Option Expr)) (values : List Expr) (trs : List (TE × TE)) : Prop :=
  ∀ (pins : List (Addr × Obj)) (s : Shared) (σ : St) (H : Hp) (Q : List (V × V) → Hp → Prop), Inv X pins σ H s → tPairs trs σ H Q →
    wpAny (model X.prog X.w) X.A (evalPairs (pairTrees keys values X.env pos)) (fun vs s' => ∃ ps H', Inv X pins σ H' s' ∧ VV ps vs ∧ Q ps H') X.xe s
def mergeK (kvs more : List (Key × V)) : List (Key × V) := more.foldl (fun acc kv => putK acc kv.1 kv.2) kvs
def tDisp (trs : List (TE × TE)) : TE := fun σ H Q => ∀ p, H p = none → tPairs trs σ (upd H p (.dK [])) fun ps H2 => H2 p = some (.dK []) ∧ ∃ kvs : List (Key × V), ps = kvs.map (fun kv => (kV kv.1, kv.2)) ∧ kvs.length ≤ 15 ∧ Q (.ref p) (upd H2 p (.dK (mergeK [] kvs)))
structure M1 (X : Cx) (o : Expr) (m : Str) (apos : Pos) (e : Expr) (cpos : Pos) : Prop where
  base : attributeBase o m X.env (eval o X.env) = eval o X.env
  few : ((backTo cpos (starEach [e] X.env)).all (fun x => !x.1) && (backToKw cpos (keywordEach [] X.env)).all (fun x => x.1.isSome)
    && decide (([e] : List Expr).length + ([] : List Keyword).length + (if ([] : List Keyword).isEmpty then 0 else 1) < 30)) = true
  line : (apos.endLine == cpos.line) = true
  trees : backTo cpos (starEach [e] X.env) = [(false, eval e X.env)]
structure M2 (X : Cx) (o : Expr) (m : Str) (apos : Pos) (e f : Expr) (cpos : Pos) : Prop where
  base : attributeBase o m X.env (eval o X.env) = eval o X.env
  few : ((backTo cpos (starEach [e, f] X.env)).all (fun x => !x.1) && (backToKw cpos (keywordEach [] X.env)).all (fun x => x.1.isSome)
    && decide (([e, f] : List Expr).length + ([] : List Keyword).length + (if ([] : List Keyword).isEmpty then 0 else 1) < 30)) = true
  line : (apos.endLine == cpos.line) = true
  trees : backTo cpos (starEach [e, f] X.env) = [(false, eval e X.env), (false, eval f X.env)]
def IsD (H : Hp) (a : Addr) : Prop := (∃ kvs, Rd H a (.dK kvs)) ∨ ∃ kvs, Rd H a (.dT kvs)
section
variable {X : Cx} {pins : List (Addr × Obj)} {σ : St} {H : Hp} {s : Shared} {a : Addr} {y d : V} {u r : Value} {o : Option V} {A : Around} {E : Value → Shared → Prop}
end
def tDGet1 (td ty : TE) : TE := fun σ H Q => td σ H fun x H1 => ∃ a, x = .ref a ∧ IsD H1 a ∧ ty σ H1 fun y H2 => ∃ o, DGet H2 a y o ∧ Q (o.getD .non) H2
def tDGet2 (td ty tx : TE) : TE := fun σ H Q => td σ H fun x H1 => ∃ a, x = .ref a ∧ IsD H1 a ∧ ty σ H1 fun y H2 => tx σ H2 fun z H3 => ∃ o, DGet H3 a y o ∧ Q (o.getD z) H3
def tDPop1 (td ty : TE) : TE := fun σ H Q => td σ H fun x H1 => ∃ a, x = .ref a ∧ IsD H1 a ∧ ty σ H1 fun y H2 => ∃ kvs k v, H2 a = some (.dK kvs) ∧ y = kV k ∧ valV kvs k = some v ∧ Q v (upd H2 a (.dK (dropK kvs k)))
def tDPop2 (td ty tx : TE) : TE := fun σ H Q => td σ H fun x H1 => ∃ a, x = .ref a ∧ IsD H1 a ∧ ty σ H1 fun y H2 => tx σ H2 fun z H3 => ∃ kvs k, H3 a = some (.dK kvs) ∧ y = kV k ∧
  (∀ v, valV kvs k = some v → Q v (upd H3 a (.dK (dropK kvs k)))) ∧ (valV kvs k = none → Q z H3)
section
variable {X : Cx} {o e f : Expr} {apos cpos : Pos} {td ty tx : TE}
end
section
variable {X : Cx} {pins : List (Addr × Obj)} {σ : St} {H : Hp} {s : Shared} {a : Addr} {kvs : List (Key × V)} {A : Around} {E : Value → Shared → Prop}
end
section
variable {X : Cx} {pins : List (Addr × Obj)} {σ : St} {H : Hp} {s : Shared} {a : Addr} {y : V} {u : Value} {A : Around} {E : Value → Shared → Prop}
end
end L2
namespace L2
open PySem PySem.Spec PyProof.Rows
section
variable {κ : Type} [DecidableEq κ]
theorem nd_snoc : ∀ {l : List κ} {k : κ}, l.Nodup → ¬ k ∈ l → (l ++ [k]).Nodup
  | [], k, _, _ => by simp
  | a :: r, k, h, hk => by
    obtain ⟨h1, h2⟩ := List.nodup_cons.mp h
    show (a :: (r ++ [k])).Nodup
    refine List.nodup_cons.mpr ⟨fun m => ?_, nd_snoc h2 fun m => hk (List.mem_cons.mpr (Or.inr m))⟩
    rcases List.mem_append.mp m with q | q
    · exact h1 q
    · exact hk (List.mem_cons.mpr (Or.inl (List.mem_singleton.mp q).symm))
end
end L2
namespace L2
open PySem PySem.Spec PyProof.Rows
def cxC (X : Cx) (N : List Str) (scope : Scope) (cl : List (Str × Addr)) (C : Addr) (s0 : Shared) (H0 : Hp) (ex : List Addr) : Cx :=
  { X with N := N, s₀ := s0, H₀ := H0, env := compEnvC scope cl C X.env, outer := X.stack, stack := X.stack, ex := ex, fn := fun _ => false, pn := [], xe := fun _ _ => False }
theorem closure_ok {env : Env} (has : ∀ x, (env.kindOf x = some .cell ∨ env.kindOf x = some .free) → ∃ c, env.cells.lookup x = some c) {scope : Scope}
    (hf : ∀ y ∈ scope.names, y.2 = .free → env.kindOf y.1 = some .cell ∨ env.kindOf y.1 = some .free) :
    ∃ cl, closureFor scope env = pure cl ∧ (∀ x c, cl.lookup x = some c → env.cells.lookup x = some c) ∧ (∀ y ∈ scope.names, y.2 = .free → ∃ c, cl.lookup y.1 = some c) := by
  have gen : ∀ (names : List (Str × NameKind)) (cs : List (Str × Addr)), (∀ y ∈ names, y.2 = .free → env.kindOf y.1 = some .cell ∨ env.kindOf y.1 = some .free) →
      (∀ x c, cs.lookup x = some c → env.cells.lookup x = some c) →
      ∃ cl, (forIn (m := Sem) names cs fun p r => do
          match p with
          | (name, kind) => if kind == .free then do let c ← cellOf env name; pure (ForInStep.yield ((name, c) :: r)) else pure (ForInStep.yield r)) = pure cl ∧
        (∀ x c, cl.lookup x = some c → env.cells.lookup x = some c) ∧ (∀ x c, cs.lookup x = some c → ∃ c, cl.lookup x = some c) ∧ (∀ y ∈ names, y.2 = .free → ∃ c, cl.lookup y.1 = some c) := by
    intro names
    induction names with
    | nil => intro cs _ h; exact ⟨cs, rfl, h, fun x c e => ⟨c, e⟩, fun y hy => nomatch hy⟩
    | cons p r ih =>
      intro cs hp h
      obtain ⟨n, k⟩ := p
      by_cases hk : k = .free
      · subst hk
        obtain ⟨c, hc⟩ := has n (hp (n, .free) List.mem_cons_self rfl)
        have h' : ∀ x d, ((n, c) :: cs).lookup x = some d → env.cells.lookup x = some d := by
          intro x d e
          rw [List.lookup_cons] at e
          cases hx : x == n with
          | true =>
            rw [hx] at e
            have : x = n := by simpa using hx
            cases e; rw [this]; exact hc
          | false => rw [hx] at e; exact h x d e
        obtain ⟨cl, e1, e2, e3, e4⟩ := ih ((n, c) :: cs) (fun y hy => hp y (List.mem_cons_of_mem _ hy)) h'
        have hn : ∃ d, cl.lookup n = some d := e3 n c (by simp [List.lookup_cons])
        refine ⟨cl, ?_, e2, fun x d e => ?_, fun y hy hyk => ?_⟩
        · rw [List.forIn_cons]
          have : cellOf env n = pure c := by unfold cellOf; rw [hc]
          simp only [beq_self_eq_true, if_true, this]
          exact e1
        · by_cases hx : x = n
          · subst hx; exact hn
          · exact e3 x d (by rw [List.lookup_cons]; have : (x == n) = false := by simpa using hx
                             rw [this]; exact e)
        · rcases List.mem_cons.mp hy with rfl | hy
          · exact hn
          · exact e4 y hy hyk
      · obtain ⟨cl, e1, e2, e3, e4⟩ := ih cs (fun y hy => hp y (List.mem_cons_of_mem _ hy)) h
        refine ⟨cl, ?_, e2, e3, fun y hy hyk => ?_⟩
        · rw [List.forIn_cons]
          have : (k == NameKind.free) = false := by simpa using hk
          simp only [this]
          exact e1
        · rcases List.mem_cons.mp hy with rfl | hy
          · exact absurd hyk hk
          · exact e4 y hy hyk
  obtain ⟨cl, e1, e2, _, e4⟩ := gen scope.names [] hf (fun x c e => nomatch e)
  refine ⟨cl, ?_, e2, e4⟩
  unfold closureFor
  simp only []
  exact congrArg (· >>= fun cs => pure cs) e1 |>.trans rfl
end L2
namespace L2
open PySem PySem.Spec PyProof.Rows
theorem relabel_kind {scope : Scope} {env : Env} {x : Str} {k : NameKind} (h : (relabel scope env).names.lookup x = some k) (hk : k = .cell ∨ k = .free) (nc : ∀ y ∈ scope.names, y.2 ≠ .cell) : ∃ y ∈ scope.names, y.1 = x ∧ y.2 = .free := by
  have gen : ∀ names : List (Str × NameKind), (names.map fun (n, k) => if (k == NameKind.free && env.scope.kind == .function && env.kindOf n == some .cell) then (n, NameKind.cell) else (n, k)).lookup x = some k → (∀ y ∈ names, y.2 ≠ .cell) →
      ∃ y ∈ names, y.1 = x ∧ y.2 = .free := by
    intro names
    induction names with
    | nil => intro h _; cases h
    | cons p r ih =>
      obtain ⟨n, j⟩ := p
      intro h nc
      rw [List.map_cons, List.lookup_cons] at h
      have e1 : (if (j == NameKind.free && env.scope.kind == .function && env.kindOf n == some .cell) = true then (n, NameKind.cell) else (n, j)).1 = n := by split <;> rfl
      dsimp only at h
      rw [e1] at h
      cases hx : x == n with
      | false =>
        rw [hx] at h
        obtain ⟨y, hy, q⟩ := ih h fun y hy => nc y (List.mem_cons_of_mem _ hy)
        exact ⟨y, List.mem_cons_of_mem _ hy, q⟩
      | true =>
        rw [hx] at h
        have ex : x = n := by simpa using hx
        have hj : j = .free := by
          by_cases hc : (j == NameKind.free && env.scope.kind == .function && env.kindOf n == some .cell) = true
          · have := (Bool.and_eq_true _ _).mp ((Bool.and_eq_true _ _).mp hc).1
            simpa using this.1
          · rw [if_neg hc] at h
            cases h
            rcases hk with z | z
            · exact absurd z (nc (n, j) List.mem_cons_self)
            · exact z
        exact ⟨(n, j), List.mem_cons_self, ex.symm, hj⟩
  exact gen scope.names h nc
section
variable {X : Cx} {pins : List (Addr × Obj)} {σ : St} {H : Hp} {s : Shared} {N : List Str} {scope : Scope} {cl : List (Str × Addr)} {C : Addr} {ex : List Addr}
theorem cxC_ok (I : Inv X pins σ H s) (hC : s.heap.objs.size ≤ C) (hkind : scope.kind = .function) (nc : ∀ y ∈ scope.names, y.2 ≠ .cell)
    (hcl : ∀ x c, cl.lookup x = some c → X.env.cells.lookup x = some c) (hcf : ∀ y ∈ scope.names, y.2 = .free → ∃ c, cl.lookup y.1 = some c)
    (hex : ∀ b ∈ ex, FpOk X pins H b) (hexl : ∀ b ∈ ex, b < s.heap.objs.size) : (cxC X N scope cl C s H ex).Ok where
  mod := I.ok.mod
  kind := hkind
  glob := I.ok.glob
  blt := I.ok.blt
  above := hC
  inj := fun x y c h1 h2 => I.ok.inj x y c (hcl x c h1) (hcl y c h2)
  has := fun x hx => by
    have hx' : ∃ k, (relabel scope X.env).names.lookup x = some k ∧ (k = .cell ∨ k = .free) := by
      rcases hx with h | h
      · exact ⟨_, h, .inl rfl⟩
      · exact ⟨_, h, .inr rfl⟩
    obtain ⟨k, h, hk⟩ := hx'
    obtain ⟨y, hy, e1, e2⟩ := relabel_kind h hk nc
    rw [← e1]
    exact hcf y hy e2
  cab := fun x c h => by cases h
  hd := I.ok.hd
  frames := I.ok.frames
  stk := .inl rfl
  exf := fun b hb => ⟨Nat.ne_of_lt (Nat.lt_of_lt_of_le (hexl b hb) hC), fun x c e => (hex b hb).2.2.2.2.1 x c (hcl x c e)⟩
  bs := I.bs
  bsz := Nat.le_trans I.ok.bsz I.sz
  noex := fun b o e hb => by
    rcases (hex b hb).2.2.2.1 with z | z
    · exact I.ok.noex b o e z
    · have h1 := Heap.lt_size e
      have h2 := I.ok.bsz
      exact absurd (Nat.lt_of_lt_of_le h1 (Nat.le_trans h2 z)) (Nat.lt_irrefl _)
  exfs := fun b hb z => by
    have h1 := I.stkSub b z
    rcases List.mem_cons.mp h1 with z | z
    · exact (hex b hb).2.1 z
    · exact (hex b hb).2.2.1 z
  funs := I.stack
  frf := I.stkFree
def capV (caps : List Nat) (σ : St) : St := caps.map fun j => (σ[j]?).join
def cSt (n : Nat) (caps : List Nat) (σ : St) : St := List.replicate n none ++ capV caps σ
theorem cxC_inv {caps : List Nat} {Nt Nf : List Str} {s1 : Shared} {m : Str → Option Value} (I : Inv X pins σ H s) (ok : (cxC X (Nt ++ Nf) scope cl C s H ex).Ok)
    (hcl : ∀ x c, cl.lookup x = some c → X.env.cells.lookup x = some c)
    (hcap : caps.map (fun j => X.N[j]?) = Nf.map some)
    (hvis : ∀ x ∈ Nf, scope.names.lookup x = some .free) (hXv : ∀ x ∈ Nf, X.env.kindOf x = some .cell ∨ X.env.kindOf x = some .free) (hcf : ∀ x ∈ Nf, ∃ c, cl.lookup x = some c)
    (hos : s1.os = s.os) (hgens : s1.gens = s.gens) (hk : ∀ b o, s.heap.get? b = some o → s1.heap.get? b = some o) (hns : s1.heap.Ns C m) (hC : s.heap.objs.size ≤ C) :
    Inv (cxC X (Nt ++ Nf) scope cl C s H ex) [] (cSt Nt.length caps σ) H s1 := by
  have hlen : caps.length = Nf.length := by
    have := congrArg List.length hcap
    simpa using this
  refine ⟨ok, hos, by rw [hgens]; exact I.bare, Un.kept hk, ⟨m, hns, fun i x v h1 h2 h3 => ?_⟩, fun x c e => ?_, I.hok.fresh hC, fun x c e => I.freeC x c (hcl x c e), fun p hp => absurd (show p ∈ ([] : List (Addr × Obj)) from hp) (by simp), I.hok.kept hk, ?_⟩
  · -- a captured name
    have hi : Nt.length ≤ i := by
      refine Nat.le_of_not_lt fun q => ?_
      unfold cSt at h2
      rw [List.getElem?_append_left (by simpa using q), List.getElem?_replicate] at h2
      split at h2 <;> cases h2
    have h1' : Nf[i - Nt.length]? = some x := by
      have : (Nt ++ Nf)[i]? = some x := h1
      rwa [List.getElem?_append_right hi] at this
    unfold cSt at h2
    rw [List.getElem?_append_right (by simpa using hi)] at h2
    have e0 : i - (List.replicate Nt.length (none : Option V)).length = i - Nt.length := by simp
    rw [e0] at h2
    generalize hj : i - Nt.length = j at h1' h2
    unfold capV at h2
    rw [List.getElem?_map] at h2
    cases hc : caps[j]? with
    | none => rw [hc] at h2; cases h2
    | some jj =>
      rw [hc] at h2
      have h2' : (σ[jj]?).join = some v := Option.some.inj h2
      have h2'' : σ[jj]? = some (some v) := by
        cases q : σ[jj]? with
        | none => rw [q] at h2'; cases h2'
        | some z => rw [q] at h2'; cases z with
          | none => cases h2'
          | some z' => cases h2'; rfl
      have hN : X.N[jj]? = some x := by
        have q := congrArg (fun l => l[j]?) hcap
        simp only [List.getElem?_map, hc, h1', Option.map_some] at q
        exact Option.some.inj q
      have hx : x ∈ Nf := List.mem_of_getElem? h1'
      have hXk := hXv x hx
      obtain ⟨mX, _, hl⟩ := I.loc
      obtain ⟨u, ru, lk⟩ := hl jj x v hN h2'' (by
        rcases hXk with z | z
        · exact .inr (.inl z)
        · exact .inr (.inr z))
      refine ⟨u, ru, .inr ?_⟩
      rcases lk with ⟨z, _⟩ | ⟨_, c, hc1, hcell⟩
      · rcases hXk with y | y <;> (rw [z] at y; cases y)
      · obtain ⟨c', hc'⟩ := hcf x hx
        have e := hcl x c' hc'
        rw [hc1] at e; cases e
        refine ⟨?_, c, hc', ?_⟩
        · rcases h3 with z | z | z
          · -- not a local of the block
            exfalso
            have hfree := hvis x hx
            have z' : (relabel scope X.env).names.lookup x = some .local := z
            have gen : ∀ names : List (Str × NameKind), names.lookup x = some .free → (names.map fun (n, k) => if (k == NameKind.free && X.env.scope.kind == .function && X.env.kindOf n == some .cell) then (n, NameKind.cell) else (n, k)).lookup x ≠ some .local := by
              intro names
              induction names with
              | nil => intro h; cases h
              | cons p r ih =>
                obtain ⟨n, k⟩ := p
                intro h
                rw [List.map_cons, List.lookup_cons]
                rw [List.lookup_cons] at h
                have e1 : (if (k == NameKind.free && X.env.scope.kind == .function && X.env.kindOf n == some .cell) = true then (n, NameKind.cell) else (n, k)).1 = n := by split <;> rfl
                dsimp only
                rw [e1]
                cases hx : x == n with
                | false => rw [hx] at h; exact ih h
                | true =>
                  rw [hx] at h
                  cases h
                  show some (if _ then (n, NameKind.cell) else (n, NameKind.free)).2 ≠ some .local
                  split <;> (intro q; cases q)
            exact gen scope.names hfree z'
          · exact .inl z
          · exact .inr z
        · obtain ⟨o, eo, d⟩ := hcell
          exact ⟨o, hk _ _ eo, d⟩
  · obtain ⟨v, q⟩ := I.cell x c (hcl x c e)
    obtain ⟨o, eo, d⟩ := q
    exact ⟨v, o, hk _ _ eo, d⟩
  · show (cSt Nt.length caps σ).length = (Nt ++ Nf).length
    unfold cSt capV
    simp [hlen]
end
end L2
namespace L2
open PySem PySem.Spec PyProof.Rows
abbrev askIfs (ifs : List Expr) (env : Env) : Sem Bool := forIn ifs true fun c r => if r = true then do let ok ← isTrue c env (eval c env); pure (ForInStep.yield ok) else pure (ForInStep.yield r)
abbrev NoX : Value → Shared → Prop := fun _ _ => False
theorem compLoop_any {P : Program} {w : World} {B : Around} {R : Result → Shared → Prop} {s : Shared} {y tg l : Expr} {cs : List Expr} {sc : Scope} {ps : Pos} {iv av : Value} {en : Env} (G : Nat → Shared → Prop)
    (one : ∀ n s, G n s → wpAny (model P w) B (pyNext iv) (fun r s1 => match r with
      | none => R (.ok .next) s1
      | some v => wpAny (model P w) B (letOwnedTupleGo tg iv v) (fun _ s1 => wpAny (model P w) B (assign tg en v) (fun _ s2 => wpAny (model P w) B (askIfs cs en) (fun k s3 =>
            if k = true then wpAny (model P w) B (eval y en) (fun x s4 => wpAny (model P w) B (call (.builtin "list.append") [av, x]) (fun _ s5 => ∃ m, m < n ∧ G m s5) NoX s4) NoX s3
            else ∃ m, m < n ∧ G m s3) NoX s2) NoX s1) NoX s1) NoX s) (n : Nat) (h : G n s) :
    codeAny (model P w) B (.compLoop (.ListComp y [⟨tg, l, cs, 0⟩] sc ps) 0 iv av en) R s := by
  refine codeAny_loop rfl G (fun n s hG => ?_) n h
  show wpAny _ B ((compTurn (.ListComp y [⟨tg, l, cs, 0⟩] sc ps) 0 iv av en).onRaise (fun x => do noteFrame x en; theTreesLotGoes x)) _ _ s
  refine wpAny_noted ?_
  rw [compTurn_list]
  refine wpAny_bind (wpAny_standAt (wpAny_bind (wpAny_mono (one n s hG) (fun r s1 h1 => ?_) fun _ _ z => z.elim)))
  cases r with
  | none => exact wpAny_pure h1
  | some v =>
    refine wpAny_bind (wpAny_mono h1 (fun _ s1' h1' => ?_) fun _ _ z => z.elim)
    refine wpAny_bind (wpAny_mono h1' (fun _ s2 h2 => wpAny_bind (wpAny_mono h2 (fun k s3 h3 => ?_) fun _ _ z => z.elim)) fun _ _ z => z.elim)
    cases k with
    | false => exact wpAny_pure ⟨rfl, h3⟩
    | true => exact wpAny_bind (wpAny_bind (wpAny_mono h3 (fun x s4 h4 => wpAny_bind (wpAny_mono h4 (fun _ s5 h5 => wpAny_pure (wpAny_pure ⟨rfl, h5⟩)) fun _ _ z => z.elim)) fun _ _ z => z.elim))
def PTs (X : Cx) (ifs : List Expr) (t : TT) : Prop :=
  ∀ (pins : List (Addr × Obj)) (s : Shared) (σ : St) (H : Hp) (Q : Bool → Hp → Prop), Inv X pins σ H s → t σ H Q →
    wpAny (model X.prog X.w) X.A (askIfs ifs X.env) (TP X pins σ Q) X.xe s
def tNoIf : TT := fun _ H Q => Q true H
theorem pts_nil {X : Cx} : PTs X [] tNoIf := fun pins s σ H Q I h => wpAny_tests_nil ⟨H, I, h⟩
section
variable {X : Cx} {pins : List (Addr × Obj)} {σ : St} {H : Hp} {s : Shared}
theorem Inv.adopt {D : Addr} {o : HO} (I : Inv X pins σ H s) (hD : H D = none) (h1 : X.s₀.heap.objs.size ≤ D) (h2 : D ≠ X.env.locals) (h3 : ∀ x c, X.env.cells.lookup x = some c → c ≠ D) (h4 : ∀ p ∈ X.pn ++ pins, p.1 ≠ D)
    (new : ObjOk X.prog X.w (upd H D o) s.heap D o) : Inv X pins σ (upd H D o) s := by
  have old : ∀ {b : Addr} {q : Obj}, X.s₀.heap.get? b = some q → b ≠ D := fun e => Nat.ne_of_lt (Nat.lt_of_lt_of_le (Heap.lt_size e) h1)
  refine ⟨I.ok, I.os, I.bare, ⟨I.base.keep, I.base.slot, fun b q e n hx => by rw [upd_ne (old e)]; exact I.base.free b q e n hx, I.base.there, fun b xs e => ?_, fun b q u e => ?_, fun b ps e => ?_⟩, I.loc, I.cell, by rw [upd_ne (Ne.symm h2)]; exact I.free, fun x c e => by rw [upd_ne (h3 x c e)]; exact I.freeC x c e, fun p hp => ?_, fun b u e => ?_, I.len⟩
  · have e' := I.base.tups b xs e
    rw [upd_ne (ne_of_none e' hD)]; exact e'
  · have e' := I.base.frzs b q u e
    rw [upd_ne (ne_of_none e' hD)]; exact e'
  · obtain ⟨more, e'⟩ := I.base.tbls b ps e
    exact ⟨more, by rw [upd_ne (ne_of_none e' hD)]; exact e'⟩
  · obtain ⟨a1, a2, a3, a4, a5⟩ := I.pin p hp
    exact ⟨a1, by rw [upd_ne (h4 p hp)]; exact a2, a3, a4, a5⟩
  · by_cases hb : b = D
    · subst hb; rw [upd_same] at e; cases e; exact new
    · rw [upd_ne hb] at e
      exact (I.hok b u e).stay (fun c v _ q => q) (fun c q => by rw [upd_ne (ne_of_none q hD)]; exact q) fun c xs q => by rw [upd_ne (ne_of_none q hD)]; exact q
def tLC (wi : TI) (g : TG) (tt : TT) (te : TE) (n : Nat) (caps : List Nat) : TE := fun σ H Q => wi σ H fun J H1 => ∃ W : Nat → Nat → List V → St → Hp → Prop, (∃ m, W 0 m [] (cSt n caps σ) H1) ∧ ∀ i m acc σ' H', W i m acc σ' H' →
  (J.stop i H' ∧ ∀ l, H' l = none → Q (.ref l) (upd H' l (.lst acc))) ∨
  (J.go i H' ∧ acc.length < sizeLine ∧ ∃ N : List V → St → Hp → Prop, (∀ ac σ2 H2, N ac σ2 H2 → ∃ m', m' < m ∧ W (i + 1) m' ac σ2 H2) ∧ ∀ x H2, J.yld i H' x H2 → g x σ' H2 fun σ3 H3 => tt σ3 H3 fun b H4 => if b = true then te σ3 H4 fun y H5 => N (acc ++ [y]) σ3 H5 else N acc σ3 H4)
structure CompOk (X : Cx) (scope : Scope) (Nt Nf : List Str) (caps : List Nat) : Prop where
  kind : scope.kind = .function
  nc : ∀ y ∈ scope.names, y.2 ≠ .cell
  nm : ∀ y ∈ scope.names, y.2 = .local → scope.names.lookup y.1 = some .local
  fr : ∀ y ∈ scope.names, y.2 = .free → X.env.kindOf y.1 = some .cell ∨ X.env.kindOf y.1 = some .free
  cap : caps.map (fun j => X.N[j]?) = Nf.map some
  vis : ∀ x ∈ Nf, scope.names.lookup x = some .free
theorem comp_block {tg iter elt : Expr} {ifs : List Expr} {scope : Scope} {pos : Pos} {g : TG} {tt : TT} {te : TE} {Nt Nf : List Str} {caps : List Nat} {cl : List (Str × Addr)} {it : Addr} {fp : List Addr} {tn : Nat → Heap → Prop} {J : It} {Q : VK} {E : Value → Shared → Prop}
    {RR : Value → Addr → Result → Shared → Prop}
    (hc : X.calm = true) (S : CompOk X scope Nt Nf caps)
    (hg : ∀ cl C s0 H0 ex, PG (cxC X (Nt ++ Nf) scope cl C s0 H0 ex) tg g)
    (ht : ∀ cl C s0 H0 ex, PTs (cxC X (Nt ++ Nf) scope cl C s0 H0 ex) ifs tt)
    (he : ∀ cl C s0 H0 ex, PE (cxC X (Nt ++ Nf) scope cl C s0 H0 ex) elt te)
    (hcl : ∀ x c, cl.lookup x = some c → X.env.cells.lookup x = some c) (hcf : ∀ y ∈ scope.names, y.2 = .free → ∃ c, cl.lookup y.1 = some c)
    (I : Inv X pins σ H s) (T : Turn X.prog X.w X.K tg J fp it tn) (st : tn 0 s.heap) (hfp : ∀ b ∈ fp, FpOk X pins H b)
    (hW : ∃ W : Nat → Nat → List V → St → Hp → Prop, (∃ m, W 0 m [] (cSt Nt.length caps σ) H) ∧ ∀ i m acc σ' H', W i m acc σ' H' →
      (J.stop i H' ∧ ∀ l, H' l = none → Q (.ref l) (upd H' l (.lst acc))) ∨
      (J.go i H' ∧ acc.length < sizeLine ∧ ∃ N : List V → St → Hp → Prop, (∀ ac σ2 H2, N ac σ2 H2 → ∃ m', m' < m ∧ W (i + 1) m' ac σ2 H2) ∧ ∀ x H2, J.yld i H' x H2 → g x σ' H2 fun σ3 H3 => tt σ3 H3 fun b H4 => if b = true then te σ3 H4 fun y H5 => N (acc ++ [y]) σ3 H5 else N acc σ3 H4))
    (fin : ∀ D C m s' H', Inv X pins σ H' s' → Q (.ref D) H' → s'.heap.Ns C m → H' C = none → C ≠ X.env.locals → X.s₀.heap.objs.size ≤ C → (∀ x c, X.env.cells.lookup x = some c → c ≠ C) → (∀ p ∈ X.pn ++ pins, p.1 ≠ C) → RR (.ref D) C (.ok .next) s') :
    wpAny (model X.prog X.w) X.A (newList []) (fun acc s₃ => wpAny (model X.prog X.w) X.A (newFunctionEnv scope X.env.globals cl [] X.env.qual none .none (some X.env)) (fun cenv s₄ =>
      codeAny (model X.prog X.w) X.A (.compStart (.ListComp elt [⟨tg, iter, ifs, 0⟩] scope pos) 0 (.ref it) acc { cenv with scope := relabel scope X.env }) (RR acc cenv.locals) s₄) E s₃) E s := by
  obtain ⟨W, ⟨m0, w0⟩, turn⟩ := hW
  refine wpAny_newObj_type (wpAny_newFunctionEnv S.nc (by intro y hy; simp at hy) (fun h₁ hns₁ hsb₁ => ?_) S.kind)
  dsimp only at hns₁ hsb₁ ⊢
  generalize hH2 : s.heap.push { cls := .type "list", dict := none, data := .seq ([] : List Value).toArray } = P2 at hns₁ hsb₁ ⊢
  have hCs : P2.objs.size = s.heap.objs.size + 1 := by rw [← hH2, Heap.size_push]
  have hDC : s.heap.objs.size ≠ P2.objs.size := by rw [hCs]; exact Nat.ne_of_lt (Nat.lt_succ_self _)
  have hCle : s.heap.objs.size ≤ P2.objs.size := by rw [hCs]; exact Nat.le_succ _
  have below : ∀ b, b < s.heap.objs.size → b ≠ P2.objs.size := fun b hb => by rw [hCs]; exact Nat.ne_of_lt (Nat.lt_succ_of_lt hb)
  have old : ∀ b o, s.heap.get? b = some o → h₁.get? b = some o := fun b o e => hsb₁.extBut b o (below b (Heap.lt_size e)) (Heap.get?_push_of_some _ (hH2 ▸ Heap.get?_push_of_some _ e))
  have hacc : h₁.PlainList s.heap.objs.size #[] := ⟨_, hsb₁.extBut _ _ hDC (Heap.get?_push_of_some _ (hH2 ▸ Heap.get?_push_size _ rfl))⟩
  have fpl : ∀ b ∈ fp, b < s.heap.objs.size := fun b hb => by
    obtain ⟨o, e, _⟩ := T.obj _ _ st b hb
    exact Heap.lt_size e
  have st₁ : tn 0 h₁ := T.keep _ _ _ st fun b _ o e => old b o e
  generalize hCe : P2.objs.size = C at hns₁ hsb₁ hDC hCle below ⊢
  generalize hDe : s.heap.objs.size = D at hacc hDC hCle ⊢
  have hDl : X.env.locals < D := by rw [← hDe]; exact I.lt
  have hDs : X.s₀.heap.objs.size ≤ D := by rw [← hDe]; exact I.sz
  have hcD : ∀ x c, X.env.cells.lookup x = some c → c < D := fun x c e => by
    obtain ⟨v, q⟩ := I.cell x c e
    rw [← hDe]; exact q.lt
  have hpD : ∀ p ∈ X.pn ++ pins, p.1 < D := fun p hp => by rw [← hDe]; exact Heap.lt_size (I.pin p hp).1
  let Y : Cx := cxC X (Nt ++ Nf) scope cl C s H fp
  have okY : Y.Ok := cxC_ok I (by rw [hDe]; exact hCle) S.kind S.nc hcl hcf hfp fpl
  have hfsY : ∀ b, b ∈ Y.fs → b < D := fun b hb => by
    rcases List.mem_cons.mp (I.stkSub b hb) with z | z
    · rw [z]; exact hDl
    · refine Nat.lt_of_lt_of_le ?_ hDs
      have := (I.ok.funs.mem z)
      refine Nat.lt_of_not_le fun q => ?_
      exact absurd z (fun z => by
        have := I.nofs (a := b)
        by_cases hb2 : s.heap.objs.size ≤ b
        · exact this hb2 z
        · obtain ⟨_, o, e, _⟩ := I.ok.funs.mem z
          exact absurd (Heap.lt_size e) (Nat.not_lt.mpr q))
  have loop : ∀ s₃ : Shared, s₃ = { s with heap := h₁, toks := s.toks + ([] : List (Str × Value)).length } →
      codeAny (model X.prog X.w) X.A (.compLoop (.ListComp elt [⟨tg, iter, ifs, 0⟩] scope pos) 0 (.ref it) (.ref D) Y.env) (RR (.ref D) C) s₃ := by
    rintro s₃ rfl
    have I0 : Inv Y [] (cSt Nt.length caps σ) H { s with heap := h₁, toks := s.toks + ([] : List (Str × Value)).length } :=
      cxC_inv I okY hcl S.cap S.vis (fun x hx => S.fr (x, .free) (PySem.mem_of_lookup (S.vis x hx)) rfl) (fun x hx => hcf (x, .free) (PySem.mem_of_lookup (S.vis x hx)) rfl) rfl rfl old hns₁ (by rw [hDe]; exact hCle)
    have fpY : ∀ {H' : Hp}, (∀ b ∈ fp, H' b = none) → ∀ b ∈ fp, FpOk Y [] H' b := fun hn b hb =>
      ⟨hn b hb, Nat.ne_of_lt (Nat.lt_of_lt_of_le (fpl b hb) (by rw [hDe]; exact hCle)), okY.exfs b hb, .inl hb, fun x c e => (hfp b hb).2.2.2.2.1 x c (hcl x c e), fun p hp => absurd (show p ∈ ([] : List (Addr × Obj)) from hp) (by simp)⟩
    have fpD : ∀ b ∈ fp, b ≠ D := fun b hb => Nat.ne_of_lt (by rw [← hDe]; exact fpl b hb)
    refine compLoop_any (fun n s' => ∃ i acc its σ' H', Inv Y [] σ' H' s' ∧ tn i s'.heap ∧ (∀ b ∈ fp, H' b = none) ∧ s'.heap.PlainList D its ∧ H' D = none ∧ Vals acc its.toList ∧ acc.length ≤ sizeLine ∧ W i n acc σ' H') ?_ m0
      ⟨0, [], #[], cSt Nt.length caps σ, H, I0, st₁, fun b hb => (hfp b hb).1, hacc, by rw [← hDe]; exact I.hok.fresh (Nat.le_refl _), .nil, Nat.zero_le _, w0⟩
    rintro n s3 ⟨i, acc, its, σ3, H3, I3, st3, fr3, ⟨nd, e3⟩, hD3, rv3, hl3, w3⟩
    have cD : C ≠ D := Ne.symm hDC
    have pinOk : ∀ {H' : Hp} {s' : Shared} {o : Obj}, s'.heap.get? D = some o → H' D = none → (∀ v, o.data ≠ .cell v) → s'.heap.get? D = some o ∧ H' D = none ∧ D ≠ Y.env.locals ∧ D ∉ Y.fs ∧ ∀ v, o.data ≠ .cell v := fun e n d =>
      ⟨e, n, hDC, fun z => absurd (hfsY D z) (Nat.lt_irrefl _), d⟩
    have I3' : Inv Y [(D, { cls := .type "list", data := .seq its nd })] σ3 H3 s3 := I3.pins_of fun p hp => by
      obtain rfl : p = (D, ({ cls := .type "list", data := .seq its nd } : Obj)) := List.mem_singleton.mp hp
      exact pinOk e3 hD3 (fun v z => by cases z)
    have fpY' : ∀ {H' : Hp}, (∀ b ∈ fp, H' b = none) → ∀ b ∈ fp, FpOk Y [(D, { cls := .type "list", data := .seq its nd })] H' b := fun hn b hb => by
      obtain ⟨a1, a2, a3, a4, a5, _⟩ := fpY hn b hb
      refine ⟨a1, a2, a3, a4, a5, fun p hp => ?_⟩
      obtain rfl : p = (D, ({ cls := .type "list", data := .seq its nd } : Obj)) := List.mem_singleton.mp hp
      exact Ne.symm (fpD b hb)
    rcases turn i n acc σ3 H3 w3 with ⟨stop, qn⟩ | ⟨go, hlt, N, hN, step⟩
    · refine thn (T.done Y rfl rfl rfl hc i _ s3 σ3 H3 _ I3' (fpY' fr3) st3 stop) fun r s4 ⟨hr, I4⟩ => ?_
      subst hr
      have e4 := (I4.pin (D, { cls := .type "list", data := .seq its nd }) (List.mem_append_right _ List.mem_cons_self)).1
      have IX : Inv X pins σ H3 s4 := I.call' (ch := fp) I4.os I4.base I4.hok I4.bare fun b hb => by
        obtain ⟨_, a2, _, a4, a5, a6⟩ := hfp b hb
        exact ⟨a4, a2, a5, a6⟩
      have IA := IX.adopt (o := .lst acc) hD3 hDs (Nat.ne_of_gt hDl) (fun x c e => Nat.ne_of_lt (hcD x c e)) (fun p hp => Nat.ne_of_lt (hpD p hp)) ⟨hl3, its.toList, nd, rv3, e4⟩
      obtain ⟨m, nsC, _⟩ := I4.loc
      refine fin D C m s4 _ IA (qn D hD3) nsC (by rw [upd_ne cD]; exact I4.free) ?_ ?_ ?_ ?_
      · exact Nat.ne_of_gt (Nat.lt_of_lt_of_le hDl hCle)
      · exact Nat.le_trans hDs hCle
      · exact fun x c e => Nat.ne_of_lt (Nat.lt_of_lt_of_le (hcD x c e) hCle)
      · exact fun p hp => Nat.ne_of_lt (Nat.lt_of_lt_of_le (hpD p hp) hCle)
    · refine thn (T.item Y rfl rfl rfl hc i _ s3 σ3 H3 _ I3' (fpY' fr3) st3 go) fun r s4 ⟨u, hr, h4⟩ => ?_
      subst hr
      refine thn h4 fun _ s5 ⟨x, H5, I5, r5, y5, st5, fr5⟩ => ?_
      have I5' := I5.pinned (fpY' fr5) (T.obj _ _ st5)
      refine thn (hg cl C s H fp _ s5 σ3 H5 x u _ I5' r5 (step x H5 y5)) fun _ s6 ⟨σ6, H6, I6, q6⟩ => ?_
      refine thn (ht cl C s H fp _ s6 σ6 H6 _ I6 q6) fun b s7 ⟨H7, I7, q7⟩ => ?_
      have back : ∀ {σ' : St} {H' : Hp} {s' : Shared}, Inv Y ([(D, { cls := .type "list", data := .seq its nd })] ++ pinsAt fp s5.heap) σ' H' s' →
          s'.heap.get? D = some { cls := .type "list", data := .seq its nd } ∧ H' D = none ∧ tn (i + 1) s'.heap ∧ ∀ b ∈ fp, H' b = none := fun {σ' H' s'} J7 => by
        have hd := J7.pin (D, { cls := .type "list", data := .seq its nd }) (List.mem_append_right _ (List.mem_append_left _ List.mem_cons_self))
        refine ⟨hd.1, hd.2.1, T.keep _ _ _ st5 fun b hb o e => (J7.pin (b, o) (List.mem_append_right _ (List.mem_append_right _ (mem_pinsAt hb e)))).1, fun b hb => ?_⟩
        obtain ⟨o, e, d⟩ := T.obj _ _ st5 b hb
        exact (J7.pin (b, o) (List.mem_append_right _ (List.mem_append_right _ (mem_pinsAt hb e)))).2.1
      cases b with
      | false =>
        rw [if_neg Bool.false_ne_true]
        rw [if_neg Bool.false_ne_true] at q7
        obtain ⟨m', hm, w7⟩ := hN _ _ _ q7
        obtain ⟨b1, b2, b3, b4⟩ := back I7
        exact ⟨m', hm, i + 1, acc, its, σ6, H7, I7.pins_of (fun p hp => nomatch hp), b3, b4, ⟨nd, b1⟩, b2, rv3, hl3, w7⟩
      | true =>
        rw [if_pos rfl]
        rw [if_pos rfl] at q7
        refine thn (he cl C s H fp _ s7 σ6 H7 _ I7 q7) fun u8 s8 ⟨y, H8, I8, r8, n8⟩ => ?_
        obtain ⟨m', hm, w8⟩ := hN _ _ _ n8
        obtain ⟨b1, b2, b3, b4⟩ := back I8
        have hsz : its.size ≤ sizeLine := by
          have h1 := rv3.length
          have h2 : its.toList.length = its.size := by simp
          omega
        refine wpAny_list_append_plain (hsz := hsz) ⟨nd, b1⟩ fun h' pl' sb' => ?_
        have I8' : Inv Y [] σ6 H8 s8 := I8.pins_of (fun p hp => nomatch hp)
        refine ⟨m', hm, i + 1, acc ++ [y], its.push u8, σ6, H8, I8'.turned (t' := s8.toks) (fun b o hb e => (sb'.2 b hb).trans e) b2 hDC (.inr (by show s.heap.objs.size ≤ D; rw [hDe]; exact Nat.le_refl _)) (fun x c e => Nat.ne_of_lt (hcD x c (hcl x c e))) (fun p hp => absurd (show p ∈ ([] : List (Addr × Obj)) from hp) (by simp)), ?_, b4, pl', b2, ?_, ?_, w8⟩
        · exact T.keep _ _ _ b3 fun b hb o e => (sb'.2 b (fpD b hb)).trans e
        · rw [Array.toList_push]
          exact rv3.append (.cons r8 .nil)
        · rw [List.length_append, List.length_singleton]
          omega
  exact codeAny_compStart_list (loop _ rfl) (T.self _ _ _ _ _ st₁ (loop _ rfl))
theorem pe_lc {tg iter elt : Expr} {ifs : List Expr} {scope : Scope} {pos : Pos} {wi : TI} {g : TG} {tt : TT} {te : TE} {Nt Nf : List Str} {caps : List Nat} (hc : X.calm = true) (S : CompOk X scope Nt Nf caps) (hi : PI X tg iter wi)
    (hg : ∀ cl C s0 H0 ex, PG (cxC X (Nt ++ Nf) scope cl C s0 H0 ex) tg g)
    (ht : ∀ cl C s0 H0 ex, PTs (cxC X (Nt ++ Nf) scope cl C s0 H0 ex) ifs tt)
    (he : ∀ cl C s0 H0 ex, PE (cxC X (Nt ++ Nf) scope cl C s0 H0 ex) elt te)
    (hs : ∀ x, foldedSetIterable iter X.env x = pure x := by intro _; rfl) : PE X (.ListComp elt [⟨tg, iter, ifs, 0⟩] scope pos) (tLC wi g tt te Nt.length caps) := by
  intro pins s σ H Q I h
  obtain ⟨cl, hclos, hcl, hcf⟩ := closure_ok I.ok.has S.fr
  rw [eval_ListComp]
  refine wpAny_comprehension_free (use := none) rfl hs hclos S.kind S.nm (thn (hi pins s σ H _ I h) fun v s1 h1 => thn h1 fun itv s2 h2 => ?_)
  obtain ⟨it, fp, tn, J, H2, e, I2, T, st2, f2, hW⟩ := h2
  subst e
  refine comp_block (RR := fun acc C => compPost (model X.prog X.w) X.A X.xe none (EP X pins σ Q) acc C) (Q := Q) hc S hg ht he hcl hcf I2 T st2 f2 hW ?_
  intro D C m s' H' I' q nsC hCn hCl hCs hCc hCp
  exact ⟨m, nsC, fun h' sb => ⟨.ref D, H', I'.turned (t' := s'.toks) (fun b o hb e => (sb.2 b hb).trans e) hCn hCl (.inr hCs) hCc hCp, rfl, q⟩⟩
end
end L2
namespace L2
open PySem PySem.Spec PyProof.Rows
def Its (z : Str) : It := ⟨fun i _ => i < z.cps.size, fun i H x H' => H' = H ∧ ∃ c, z.cps[i]? = some c ∧ x = .str ⟨#[c]⟩, fun i _ => z.cps.size ≤ i⟩
section
variable {X : Cx} {tg : Expr}
def iStr (tl : TE) : TI := fun σ H R => tl σ H fun x H1 => ∃ z, x = .str z ∧ R (Its z) H1
end
section
variable {X : Cx}
def strsV (ys : List Str) : List V := ys.map V.str
def rJoin (K : PySem.W.Frag) : V → List V → Hp → VK → Prop := fun x vs H Q => ∃ z l ys, x = .str z ∧ vs = [.ref l] ∧ SqL K H l (strsV ys) ∧ (ys.map (·.length)).sum + ys.length * z.length ≤ 16777216 ∧ Q (.str (Txt.join z ys)) H
def rFind : V → List V → Hp → VK → Prop := fun x vs H Q => ∃ z y, x = .str z ∧ vs = [.str y] ∧ Q (.int (Txt.find z y)) H
def rUpper : V → List V → Hp → VK → Prop := fun x vs H Q => ∃ z, x = .str z ∧ vs = [] ∧ Builtin.Str.tooLong (Txt.upper z).length = false ∧ Q (.str (Txt.upper z)) H
def CBig (i j : Int) : Prop := (i.natAbs < 2 ^ 4096 ∧ j.natAbs < 2 ^ 4096) ∨ CMul i j
theorem bits_le {i : Int} {n : Nat} (h : i.natAbs < 2 ^ n) : Builtin.Int.intBits i ≤ n := by
  unfold Builtin.Int.intBits
  split
  · exact Nat.zero_le _
  · rename_i h0
    have h1 : i.natAbs ≠ 0 := by simpa using h0
    have := (Nat.log2_lt h1).mpr h
    omega
theorem CBig.ok {i j : Int} (h : CBig i j) : IntMulOk i j := by
  rcases h with ⟨h1, h2⟩ | h
  · exact IntMulOk.of_bits (Nat.le_trans (bits_le h1) (by decide)) (Nat.le_trans (bits_le h2) (by decide))
  · exact h.ok
theorem op_big : OpR X (binaryOp .Mult) (rI CBig fun i j => .int (i * j)) := opI fun _ _ _ _ _ _ _ hc q => mul_int q hc.ok
def blsV (bs : List Bool) : List V := bs.map V.bl
def rEqS (K : PySem.W.Frag) (neg : Bool) : R2 := fun x y H Q => ∃ l b ys zs, x = .ref l ∧ y = .ref b ∧ SqL K H l (strsV ys) ∧ SqL K H b (strsV zs) ∧ Q (.bl (if neg then !decide (ys = zs) else decide (ys = zs))) H
end
section
variable {X : Cx} {e : Expr} {te : TE} {pos : Pos}
def tFmt (te : TE) : TE := fun σ H Q => te σ H fun x H1 => (∃ z, x = .str z ∧ z.length ≤ sizeLine ∧ Q (.str z) H1) ∨ ∃ i : Int, x = .int i ∧ i.natAbs.log2 < 1920 ∧ Q (.str (toString i)) H1
inductive PEs (X : Cx) : List Expr → List TE → Prop
  | nil : PEs X [] []
  | cons {e es t ts} : PE X e t → PEs X es ts → PEs X (e :: es) (t :: ts)
def tJoin : List TE → Str → TE
  | [], out => fun _ H Q => out.length ≤ sizeLine ∧ Q (.str out) H
  | t :: r, out => fun σ H Q => t σ H fun x H1 => ∃ y, x = .str y ∧ (out ++ y).length ≤ sizeLine ∧ tJoin r (out ++ y) σ H1 Q
end
end L2
namespace L2
open PySem PySem.Spec PyProof.Rows
abbrev New (H : Hp) (o : HO) (Q : VK) : Prop := ∀ p H', H p = none → Same H H' → H' p = some o → Q (.ref p) H'
theorem Same.new {H : Hp} {p : Addr} {o : HO} (h : H p = none) : Same H (upd H p o) := fun b u e => by rw [upd_ne (ne_of_none e h)]; exact e
theorem New.to {H : Hp} {Q : VK} {o : HO} (h : New H o Q) : ∀ p, H p = none → Q (.ref p) (upd H p o) := fun p hp => h p _ hp (Same.new hp) upd_same
section
variable {X : Cx} {es : List Expr} {t : TA} {pos : Pos}
def tLstN (t : TA) : TE := fun σ H Q => t σ H fun xs H1 => xs.length ≤ sizeLine ∧ New H1 (.lst xs) Q
def tTupN (t : TA) : TE := fun σ H Q => t σ H fun xs H1 => xs.length ≤ sizeLine ∧ New H1 (.tup xs) Q
theorem pe_tupN {x1} (h : PA X es t) : PE X (.Tuple es x1 pos) (tTupN t) := by
  intro pins s σ H Q I hq
  refine wpAny_Tuple_spliced (thn (h pos pins s σ H _ I hq) fun us s1 ⟨xs, H1, I1, r, z, q⟩ => ⟨by rw [← r.length]; exact z, ?_⟩)
  refine ⟨.ref s1.heap.objs.size, upd H1 s1.heap.objs.size (.tup xs), I1.laid (t' := s1.toks) (fun b u e => Heap.get?_push_of_some _ e) (Nat.le_refl _) ?_, rfl, New.to q _ (I1.hok.fresh (Nat.le_refl _))⟩
  exact ⟨z, us, r, ⟨_, Heap.get?_push_size _ rfl, rfl, _, rfl⟩⟩
theorem pe_lstN (h : PA X es t) : PE X (.List es pos) (tLstN t) := by
  intro pins s σ H Q I hq
  refine wpAny_List_spliced (thn (h pos pins s σ H _ I hq) fun us s1 ⟨xs, H1, I1, r, z, q⟩ => ⟨by rw [← r.length]; exact z, ?_⟩)
  refine ⟨.ref s1.heap.objs.size, upd H1 s1.heap.objs.size (.lst xs), I1.laid (t' := s1.toks) (fun b u e => Heap.get?_push_of_some _ e) (Nat.le_refl _) ?_, rfl, New.to q _ (I1.hok.fresh (Nat.le_refl _))⟩
  exact ⟨z, us, 0, r, Heap.get?_push_size _ rfl⟩
def rSlN (K : PySem.W.Frag) : V → Option Int → Option Int → Hp → VK → Prop := fun x lo hi H Q => ∃ a xs, x = .ref a ∧ SqL K H a xs ∧ New H (.lst (cutV xs lo hi)) Q
theorem sl_listN : SlR X (rSlN X.K) := by
  intro pins s σ H x v vl vu lo hi sl Q I rx hs pl pu h
  obtain ⟨a, xs, e, h1, h2⟩ := h
  exact sl_list pins s σ H x v vl vu lo hi sl Q I rx hs pl pu ⟨a, xs, e, h1, New.to h2⟩
theorem call_listN : CallR X (.type "list") (fun xs H Q => ∃ p ys, xs = [.ref p] ∧ (SqL X.K H p ys ∨ SqT X.K H p ys) ∧ New H (.lst ys) Q) := by
  intro pins s σ H xs us Q I r h
  obtain ⟨p, ys, e, h1, h2⟩ := h
  exact call_list_of pins s σ H xs us Q I r ⟨p, ys, e, h1, New.to h2⟩
theorem call_tupleN : CallR X (.type "tuple") (fun xs H Q => ∃ p ys, xs = [.ref p] ∧ SqL X.K H p ys ∧ New H (.tup ys) Q) := by
  intro pins s σ H xs us Q I r h
  obtain ⟨p, ys, e, h1, h2⟩ := h
  exact call_tuple_of pins s σ H xs us Q I r ⟨p, ys, e, .inl ⟨h1, New.to h2⟩⟩
end
def rIsi (K : PySem.W.Frag) : List V → Hp → VK → Prop := fun xs H Q => ∃ x n t b, xs = [x, .ty n] ∧ TyOf K H x t ∧ PySem.W.kitOne K t (.type n) = some b ∧ Q (.bl b) H
def tTru (K : PySem.W.Frag) (ta : TE) : TT := fun σ H Q => ta σ H fun x H' => ∃ k, TruV K x H' k ∧ Q k H'
def rLen (K : PySem.W.Frag) : List V → Hp → VK → Prop := fun xs H Q => ∃ x n, xs = [x] ∧ LenV K x H n ∧ Q (.int n) H
def rToInt : List V → Hp → VK → Prop := fun xs H Q => (∃ i, xs = [.int i] ∧ Q (.int i) H) ∨ ∃ k, xs = [.bl k] ∧ Q (.int (if k then 1 else 0)) H
def rIsB : R2 := fun x y H Q => ∃ a b, x = .bl a ∧ y = .bl b ∧ Q (.bl (a == b)) H
def rAll (K : PySem.W.Frag) : List V → Hp → VK → Prop := fun xs H Q => ∃ l bs, xs = [.ref l] ∧ SqL K H l (blsV bs) ∧ Q (.bl (bs.all id)) H
def rInS : R2 := fun x y H Q => ∃ i j, x = .str i ∧ y = .str j ∧ Q (.bl (!(Builtin.Str.occurrences j i 0 j.length 1).isEmpty)) H
def rListN (K : PySem.W.Frag) : List V → Hp → VK → Prop := fun xs H Q => ∃ p ys, xs = [.ref p] ∧ (SqL K H p ys ∨ SqT K H p ys) ∧ New H (.lst ys) Q
def rTupleN (K : PySem.W.Frag) : List V → Hp → VK → Prop := fun xs H Q => ∃ p ys, xs = [.ref p] ∧ SqL K H p ys ∧ New H (.tup ys) Q
section
variable {X : Cx} {a : Expr} {ta : TE}
theorem cl_len : CallR X (.builtin "len") (rLen X.K) := call_len
theorem cl_list : CallR X (.type "list") (rListN X.K) := call_listN
theorem cl_tuple : CallR X (.type "tuple") (rTupleN X.K) := call_tupleN
end
def rPlus : R2 := fun x y H Q => match x, y with
  | .int i, .int j => Q (.int (i + j)) H
  | .str i, .str j => i.length + j.length ≤ sizeLine ∧ Q (.str (i ++ j)) H
  | .ref l, .ref b => ∃ xs zs, H l = some (.lst xs) ∧ H b = some (.lst zs) ∧ xs.length + zs.length ≤ sizeLine ∧ New H (.lst (xs ++ zs)) Q
  | _, _ => False
def rTimes : R2 := fun x y H Q => match x, y with
  | .int i, .int j => CBig i j ∧ Q (.int (i * j)) H
  | .str z, .int n => MulOk z n ∧ Q (.str (Txt.mul z n)) H
  | _, _ => False
def rStr : List V → Hp → VK → Prop := fun xs H Q => match xs with
  | [.int i] => i.natAbs.log2 < 1920 ∧ Q (.str (toString i)) H
  | [.str z] => Q (.str z) H
  | _ => False
section
variable {X : Cx}
theorem op_plus : OpR X (binaryOp .Add) rPlus := by
  intro pins s σ H x y v u Q I rx ry h
  cases x with
  | int i => cases y with
    | int j => exact op_add pins s σ H _ _ v u Q I rx ry ⟨i, j, rfl, rfl, h⟩
    | _ => exact (show False from h).elim
  | str i => cases y with
    | str j => exact op_add_str pins s σ H _ _ v u Q I rx ry ⟨i, j, rfl, rfl, h⟩
    | _ => exact (show False from h).elim
  | ref l => cases y with
    | ref b =>
      obtain ⟨xs, zs, h1, h2, h3, h4⟩ := h
      exact op_cat pins s σ H _ _ v u Q I rx ry ⟨l, b, xs, zs, rfl, rfl, h1, h2, h3, New.to h4⟩
    | _ => exact (show False from h).elim
  | _ => exact (show False from h).elim
theorem op_times : OpR X (binaryOp .Mult) rTimes := by
  intro pins s σ H x y v u Q I rx ry h
  cases x with
  | int i => cases y with
    | int j => exact op_big pins s σ H _ _ v u Q I rx ry ⟨i, j, rfl, rfl, h⟩
    | _ => exact (show False from h).elim
  | str z => cases y with
    | int n =>
      obtain ⟨t, rfl⟩ := rx
      obtain ⟨t', rfl⟩ := ry
      exact SB.mul h.1 fun t2 k => ⟨.str _, H, I.tok _, ⟨_, rfl⟩, h.2⟩
    | _ => exact (show False from h).elim
  | _ => exact (show False from h).elim
theorem comp_ok {scope sc : Scope} {Nt Nf : List Str} {caps : List Nat} (hsc : X.env.scope = sc) (kind : scope.kind = .function) (nc : ∀ y ∈ scope.names, y.2 ≠ .cell) (nm : ∀ y ∈ scope.names, y.2 = .local → scope.names.lookup y.1 = some .local)
    (fr : ∀ y ∈ scope.names, y.2 = .free → sc.names.lookup y.1 = some .cell ∨ sc.names.lookup y.1 = some .free) (cap : caps.map (fun j => X.N[j]?) = Nf.map some) (vis : ∀ x ∈ Nf, scope.names.lookup x = some .free) : CompOk X scope Nt Nf caps :=
  ⟨kind, nc, nm, fun y hy h => by show X.env.scope.names.lookup y.1 = _ ∨ X.env.scope.names.lookup y.1 = _; rw [hsc]; exact fr y hy h, cap, vis⟩
abbrev LcEnd (J : It) (te : TE) (tt : TT) (caps : List Nat) (σ : St) (H : Hp) (Q : VK) : Prop := ∃ W : Nat → Nat → List V → St → Hp → Prop, (∃ m, W 0 m [] (cSt 1 caps σ) H) ∧ ∀ i m acc σ' H', W i m acc σ' H' →
  (J.stop i H' ∧ ∀ l, H' l = none → Q (.ref l) (upd H' l (.lst acc))) ∨
  (J.go i H' ∧ acc.length < sizeLine ∧ ∃ N : List V → St → Hp → Prop, (∀ ac σ2 H2, N ac σ2 H2 → ∃ m', m' < m ∧ W (i + 1) m' ac σ2 H2) ∧ ∀ x H2, J.yld i H' x H2 → gName 0 x σ' H2 fun σ3 H3 => tt σ3 H3 fun b H4 => if b = true then te σ3 H4 fun y H5 => N (acc ++ [y]) σ3 H5 else N acc σ3 H4)
theorem lc_any {J : It} {te : TE} {tt : TT} {caps : List Nat} {σ : St} {H : Hp} {Q : VK} (n : Nat) (hz : n ≤ sizeLine) (Pv : Nat → List V → Hp → Prop) (h0 : Pv 0 [] H) (hl : ∀ i acc H, Pv i acc H → acc.length ≤ i)
    (hgo : ∀ i acc H, i < n → Pv i acc H → J.go i H) (hst : ∀ acc H, Pv n acc H → J.stop n H)
    (hs : ∀ i x acc H H2, i < n → Pv i acc H → J.yld i H x H2 → tt (some x :: capV caps σ) H2 fun b H4 => if b = true then te (some x :: capV caps σ) H4 fun y H5 => Pv (i + 1) (acc ++ [y]) H5 else Pv (i + 1) acc H4)
    (hd : ∀ acc H, Pv n acc H → New H (.lst acc) Q) : LcEnd J te tt caps σ H Q := by
  refine ⟨fun i m acc σ' H => m = n - i ∧ i ≤ n ∧ (∃ v, σ' = v :: capV caps σ) ∧ Pv i acc H, ⟨n, by simp, Nat.zero_le _, ⟨none, rfl⟩, h0⟩, ?_⟩
  rintro i m acc σ' H' ⟨rfl, hi, ⟨v, rfl⟩, p⟩
  by_cases hlt : i < n
  · refine .inr ⟨hgo i acc H' hlt p, ?_, fun ac σ2 H2 => (∃ v, σ2 = v :: capV caps σ) ∧ Pv (i + 1) ac H2, fun ac σ2 H2 ⟨e, p'⟩ => ⟨n - (i + 1), by omega, rfl, hlt, e, p'⟩, fun x H2 y => ?_⟩
    · have := hl i acc H' p
      omega
    · have eN : ∀ ac H5, ((∃ u, some x :: capV caps σ = u :: capV caps σ) ∧ Pv (i + 1) ac H5) = Pv (i + 1) ac H5 := fun ac H5 => propext ⟨And.right, fun p => ⟨⟨_, rfl⟩, p⟩⟩
      show tt (some x :: capV caps σ) H2 fun b H4 => if b = true then te (some x :: capV caps σ) H4 fun y H5 => ((∃ u, some x :: capV caps σ = u :: capV caps σ) ∧ Pv (i + 1) (acc ++ [y]) H5) else ((∃ u, some x :: capV caps σ = u :: capV caps σ) ∧ Pv (i + 1) acc H4)
      simp only [eN]
      exact hs i x acc H' H2 hlt p y
  · have e : i = n := by omega
    subst e
    exact .inl ⟨hst acc H' p, New.to (hd acc H' p)⟩
theorem lc_list {K : PySem.W.Frag} {a : Addr} {xs : List V} {te : TE} {tt : TT} {caps : List Nat} {σ : St} {H : Hp} {Q : VK} (hz : xs.length ≤ sizeLine) (Pv : Nat → List V → Hp → Prop) (h0 : Pv 0 [] H) (hl : ∀ i acc H, Pv i acc H → acc.length ≤ i ∧ SqL K H a xs)
    (hs : ∀ i x acc H, xs[i]? = some x → Pv i acc H → tt (some x :: capV caps σ) H fun b H4 => if b = true then te (some x :: capV caps σ) H4 fun y H5 => Pv (i + 1) (acc ++ [y]) H5 else Pv (i + 1) acc H4)
    (hd : ∀ acc H, Pv xs.length acc H → New H (.lst acc) Q) : LcEnd (Itl K a) te tt caps σ H Q := by
  refine lc_any xs.length hz Pv h0 (fun i acc H p => (hl i acc H p).1) (fun i acc H hi p => ⟨xs, xs[i], (hl i acc H p).2, by simp [hi]⟩) (fun acc H p => ⟨xs, (hl _ acc H p).2, Nat.le_refl _⟩) ?_ hd
  rintro i x acc H1 H2 hi p ⟨rfl, y⟩
  exact hs i x acc _ (y xs (hl i acc _ p).2) p
theorem lc_range {lo : Int} {n : Nat} {te : TE} {tt : TT} {caps : List Nat} {σ : St} {H : Hp} {Q : VK} (hz : n ≤ sizeLine) (Pv : Nat → List V → Hp → Prop) (h0 : Pv 0 [] H) (hl : ∀ i acc H, Pv i acc H → acc.length ≤ i)
    (hs : ∀ i acc H, i < n → Pv i acc H → tt (some (.int (lo + i)) :: capV caps σ) H fun b H4 => if b = true then te (some (.int (lo + i)) :: capV caps σ) H4 fun y H5 => Pv (i + 1) (acc ++ [y]) H5 else Pv (i + 1) acc H4)
    (hd : ∀ acc H, Pv n acc H → New H (.lst acc) Q) : LcEnd (Itr lo n) te tt caps σ H Q := by
  refine lc_any n hz Pv h0 hl (fun i acc H hi p => hi) (fun acc H p => Nat.le_refl _) ?_ hd
  rintro i x acc H1 H2 hi p ⟨rfl, rfl⟩
  exact hs i acc _ hi p
end
end L2
namespace L2
open PySem
theorem ex_self_and {α : Sort _} {a : α} {p : α → Prop} : (∃ x, x = a ∧ p x) ↔ p a := ⟨fun ⟨_, e, h⟩ => e ▸ h, fun h => ⟨a, rfl, h⟩⟩
theorem ex_some_and {α : Type} {a : α} {p : α → Prop} : (∃ v, some (some a) = some (some v) ∧ p v) ↔ p a := ⟨fun ⟨_, e, h⟩ => by cases e; exact h, fun h => ⟨a, rfl, h⟩⟩
theorem ex_int {i : Int} {p : Int → Prop} : (∃ j, V.int i = V.int j ∧ p j) ↔ p i := ⟨fun ⟨_, e, h⟩ => by cases e; exact h, fun h => ⟨i, rfl, h⟩⟩
theorem ex_str {i : Str} {p : Str → Prop} : (∃ j, V.str i = V.str j ∧ p j) ↔ p i := ⟨fun ⟨_, e, h⟩ => by cases e; exact h, fun h => ⟨i, rfl, h⟩⟩
theorem ex_bl {i : Bool} {p : Bool → Prop} : (∃ j, V.bl i = V.bl j ∧ p j) ↔ p i := ⟨fun ⟨_, e, h⟩ => by cases e; exact h, fun h => ⟨i, rfl, h⟩⟩
theorem ex_ref {i : Addr} {p : Addr → Prop} : (∃ j, V.ref i = V.ref j ∧ p j) ↔ p i := ⟨fun ⟨_, e, h⟩ => by cases e; exact h, fun h => ⟨i, rfl, h⟩⟩
def ForEnd (J : It) (g : TG) (tb : TS) (D : Ends) (σ : St) (H1 : Hp) : Prop := ∃ W : Nat → Nat → St → Hp → Prop, (∃ m, W 0 m σ H1) ∧ ∀ i m σ H, W i m σ H →
  (J.stop i H ∧ D.nx σ H) ∨ (J.go i H ∧ ∃ N : St → Hp → Prop, (∀ σ' H', N σ' H' → ∃ m', m' < m ∧ W (i + 1) m' σ' H') ∧ ∀ x H', J.yld i H x H' → g x σ H' fun σ2 H2 => tb { D with nx := N, ct := N, bk := D.nx } σ2 H2)
theorem tFor_def (wi : TI) (g : TG) (tb : TS) (D : Ends) (σ : St) (H : Hp) : tFor wi g tb D σ H = wi σ H fun J H1 => ForEnd J g tb D σ H1 := rfl
def CompEnd (J : It) (g : TG) (tt : TT) (te : TE) (n : Nat) (caps : List Nat) (σ : St) (H : Hp) (Q : VK) : Prop := ∃ W : Nat → Nat → List V → St → Hp → Prop, (∃ m, W 0 m [] (cSt n caps σ) H) ∧ ∀ i m acc σ' H', W i m acc σ' H' →
  (J.stop i H' ∧ ∀ l, H' l = none → Q (.ref l) (upd H' l (.lst acc))) ∨
  (J.go i H' ∧ acc.length < sizeLine ∧ ∃ N : List V → St → Hp → Prop, (∀ ac σ2 H2, N ac σ2 H2 → ∃ m', m' < m ∧ W (i + 1) m' ac σ2 H2) ∧ ∀ x H2, J.yld i H' x H2 → g x σ' H2 fun σ3 H3 => tt σ3 H3 fun b H4 => if b = true then te σ3 H4 fun y H5 => N (acc ++ [y]) σ3 H5 else N acc σ3 H4)
theorem tLC_def (wi : TI) (g : TG) (tt : TT) (te : TE) (n : Nat) (caps : List Nat) (σ : St) (H : Hp) (Q : VK) : tLC wi g tt te n caps σ H Q = wi σ H fun J H1 => CompEnd J g tt te n caps σ H1 Q := rfl
section
variable {K : PySem.W.Frag} {a : Addr} {xs : List V} {te : TE} {tt : TT} {caps : List Nat} {σ : St} {H : Hp} {Q : VK} {z : Str} {lo : Int} {n : Nat}
theorem cc_list (hz : xs.length ≤ sizeLine) (Pv : Nat → List V → Hp → Prop) (h0 : Pv 0 [] H) (hl : ∀ i acc H, Pv i acc H → acc.length ≤ i ∧ SqL K H a xs)
    (hs : ∀ i x acc H, xs[i]? = some x → Pv i acc H → tt (some x :: capV caps σ) H fun b H4 => if b = true then te (some x :: capV caps σ) H4 fun y H5 => Pv (i + 1) (acc ++ [y]) H5 else Pv (i + 1) acc H4)
    (hd : ∀ acc H, Pv xs.length acc H → New H (.lst acc) Q) : CompEnd (Itl K a) (gName 0) tt te 1 caps σ H Q := lc_list hz Pv h0 hl hs hd
theorem cc_range (hz : n ≤ sizeLine) (Pv : Nat → List V → Hp → Prop) (h0 : Pv 0 [] H) (hl : ∀ i acc H, Pv i acc H → acc.length ≤ i)
    (hs : ∀ i acc H, i < n → Pv i acc H → tt (some (.int (lo + i)) :: capV caps σ) H fun b H4 => if b = true then te (some (.int (lo + i)) :: capV caps σ) H4 fun y H5 => Pv (i + 1) (acc ++ [y]) H5 else Pv (i + 1) acc H4)
    (hd : ∀ acc H, Pv n acc H → New H (.lst acc) Q) : CompEnd (Itr lo n) (gName 0) tt te 1 caps σ H Q := lc_range hz Pv h0 hl hs hd
end
theorem cxOf_K {CX : CXT} {P : Program} {w : World} {K : PySem.W.Frag} {mg : Str → Option Value} {base : Heap} {N : List Str} {qual : Str} {scope : Scope} {f : Addr} {cd : Value} {A : Around} {outer : List Env} {s : Shared} {H : Hp} {E : XK} :
    (cxOf CX P w K mg base N qual scope f cd A outer s H E).K = K := rfl
theorem cxC_K {X : Cx} {N : List Str} {scope : Scope} {cl : List (Str × Addr)} {C : Addr} {s0 : Shared} {H0 : Hp} {ex : List Addr} : (cxC X N scope cl C s0 H0 ex).K = X.K := rfl
theorem Same.after {H H1 : Hp} {p : Addr} {o : HO} (s : Same H H1) (h : H1 p = none) : Same H (upd H1 p o) := s.trans (Same.new h)
section
variable {X : Cx}
theorem kix_list (K : PySem.W.Frag) (hK : X.K = K := by rfl) : IxR X (rIxL K) := hK ▸ ix_list
theorem kix_tup (K : PySem.W.Frag) (hK : X.K = K := by rfl) : IxR X (rIxT K) := hK ▸ ix_tup
theorem ksl_list (K : PySem.W.Frag) (hK : X.K = K := by rfl) : SlR X (rSlN K) := hK ▸ sl_listN
theorem kcl_len (K : PySem.W.Frag) (hK : X.K = K := by rfl) : CallR X (.builtin "len") (rLen K) := hK ▸ cl_len
theorem kcl_list (K : PySem.W.Frag) (hK : X.K = K := by rfl) : CallR X (.type "list") (rListN K) := hK ▸ cl_list
theorem kcl_tuple (K : PySem.W.Frag) (hK : X.K = K := by rfl) : CallR X (.type "tuple") (rTupleN K) := hK ▸ cl_tuple
theorem kpi_list (K : PySem.W.Frag) {tg l : Expr} {tl : TE} (hl : PE X l tl) (hK : X.K = K := by rfl) : PI X tg l (iList K tl) := hK ▸ pi_list hl
theorem kpg_tup (K : PySem.W.Frag) {pos : Pos} {es : List Expr} {k : Nat} {t : TGs} {n : Nat} (hc : X.calm = true) (h : PGs X es t) (hn : (assignEach es X.env).length = n := by rfl) (hst : (assignEach es X.env).findIdx? (·.1) = none := by rfl) (hK : X.K = K := by rfl) :
    PG X (.Tuple es k pos) (gTup K n t) := hK ▸ pg_tup hc h hn hst
theorem kpe_bm (K : PySem.W.Frag) {o e : Expr} {es : List Expr} {to : TE} {t : TA} {name : Str} {apos cpos : Pos} {T id : String} {r : V → List V → Hp → VK → Prop} (pa : PlainAttrs T) (slot : Slot T name id) (hty : typeOf (.builtin id) = pure (.type "method_descriptor")) (hm : MtR X id r) (ho : PE X o to) (ha : PA X (e :: es) t)
    (hbase : attributeBase o name X.env (eval o X.env) = eval o X.env := by rfl)
    (hfew : ((backTo cpos (starEach (e :: es) X.env)).all (fun x => !x.1) && (backToKw cpos (keywordEach [] X.env)).all (fun x => x.1.isSome) && decide ((e :: es).length + ([] : List Keyword).length + (if ([] : List Keyword).isEmpty then 0 else 1) < 30)) = true := by rfl)
    (hline : (apos.endLine == cpos.line) = true := by rfl) (hs : starEach (e :: es) X.env = (false, eval e X.env) :: starEach es X.env := by rfl) (hplain : (backTo cpos (starEach es X.env)).any (·.1) = false := by rfl) (hK : X.K = K := by rfl) :
    PE X (.Call (.Attribute o name apos) (e :: es) [] cpos) (tBM K T r to t) := hK ▸ pe_bm pa slot hty hm ho ha hbase hfew hline hs hplain
end
theorem bb_len : bootBuiltins "len" = some (.builtin "len") := by decide +kernel
theorem bb_sum : bootBuiltins "sum" = some (.builtin "sum") := by decide +kernel
theorem bb_min : bootBuiltins "min" = some (.builtin "min") := by decide +kernel
theorem bb_list : bootBuiltins "list" = some (.type "list") := by decide +kernel
theorem bb_tuple : bootBuiltins "tuple" = some (.type "tuple") := by decide +kernel
end L2
namespace L2
open PySem
def Bd (p : Nat) (x : Int) : Prop := x.natAbs < 2 ^ p
theorem Bd.mono {p q : Nat} {x : Int} (h : Bd p x) (l : p ≤ q) : Bd q x := Nat.lt_of_lt_of_le h (Nat.pow_le_pow_right (by decide) l)
theorem Bd.mul {p q : Nat} {x y : Int} (h : Bd p x) (h' : Bd q y) : Bd (p + q) (x * y) := by
  unfold Bd at *
  rw [Int.natAbs_mul, Nat.pow_add]
  exact Nat.mul_lt_mul'' h h'
theorem Bd.big {p q : Nat} {x y : Int} (h : Bd p x) (h' : Bd q y) (hp : p ≤ 4096 := by decide) (hq : q ≤ 4096 := by decide) : CBig x y := .inl ⟨h.mono hp, h'.mono hq⟩
theorem Bd.of {p : Nat} {x : Int} (h0 : 0 ≤ x) (h1 : x < 2 ^ p) : Bd p x := by
  unfold Bd
  have e : ((2 ^ p : Nat) : Int) = (2 : Int) ^ p := by norm_cast
  omega
def stirA (c k : Int) : Int := c % 10 ^ Int.toNat 40 * 48271 + 3 ^ Int.toNat 60 * (k + 1) * (k + 1) + k
def stirB (n : Int) : Int := n * n + 69621 * n
def stirF (c k : Int) : Int := stirB (stirA c k) * stirB (stirA c k) % (10 ^ Int.toNat 61 + 7) / 8
end L2
local macro_rules | `(tactic| walk_at "rd") => `(tactic| simp only [L2.tCB, L2.tCons, L2.tNil, L2.tVar, L2.rStr, L2.tNoIf, L2.capV, List.map_nil, List.getElem?_cons_zero, L2.ex_some_and, if_true])
namespace L2
open PySem
theorem le_line {n : Nat} (h : n ≤ 1000000) : n ≤ sizeLine := Nat.le_trans h (by decide)
def PartS (x : V) (y : Str) : Prop := (∃ i : Int, x = .int i ∧ i.natAbs < 2 ^ 64 ∧ y = Str.ofString (toString i)) ∨ x = .str y
inductive PartsS : List V → List Str → Prop
  | nil : PartsS [] []
  | cons {x y xs ys} : PartS x y → PartsS xs ys → PartsS (x :: xs) (y :: ys)
theorem PartsS.get : ∀ {xs : List V} {ys : List Str}, PartsS xs ys → ∀ (i : Nat) (x : V), xs[i]? = some x → ∃ y, ys[i]? = some y ∧ PartS x y
  | _, _, .nil, i, x, e => by simp at e
  | _, _, .cons p r, 0, x, e => by simp at e; subst e; exact ⟨_, rfl, p⟩
  | _, _, .cons p r, i + 1, x, e => r.get i x (by simpa using e)
theorem PartsS.len {xs : List V} {ys : List Str} (p : PartsS xs ys) : xs.length = ys.length := by
  induction p with
  | nil => rfl
  | cons _ _ ih => simp [ih]
theorem sx_ext {x y : Str} (h : x.cps.toList = y.cps.toList) : x = y := by
  cases x; cases y
  simp at h
  simp [h]
theorem sx_app (x y : Str) : (x ++ y).cps.toList = x.cps.toList ++ y.cps.toList := by
  show (x.cps ++ y.cps).toList = _
  simp
theorem sx_assoc (x y z : Str) : x ++ y ++ z = x ++ (y ++ z) := sx_ext (by simp only [sx_app, List.append_assoc])
theorem sx_len (x y : Str) : (x ++ y).length = x.length + y.length := strLen_append x y
theorem dig_cases {k : Int} (h0 : 0 ≤ k) (h1 : k < 10) : k = 0 ∨ k = 1 ∨ k = 2 ∨ k = 3 ∨ k = 4 ∨ k = 5 ∨ k = 6 ∨ k = 7 ∨ k = 8 ∨ k = 9 := by omega
theorem dig_len {k : Int} (h0 : 0 ≤ k) (h1 : k < 10) : (Str.ofString (toString k)).length = 1 := by
  rcases dig_cases h0 h1 with rfl | rfl | rfl | rfl | rfl | rfl | rfl | rfl | rfl | rfl <;> decide +kernel
theorem cut_to {ns : List Int} {k : Nat} : cutV (ns.map V.int) none (some (k : Int)) = (ns.take k).map V.int := by
  unfold cutV
  rw [HT.sIx_none, HT.sIx_nat, List.drop_zero, Nat.sub_zero, List.length_map, List.map_take]
  by_cases h : k ≤ ns.length
  · rw [Nat.min_eq_left h]
  · rw [Nat.min_eq_right (by omega), List.take_of_length_le (by simp), List.take_of_length_le (by simp; omega)]
theorem cut_from {ns : List Int} {j k : Nat} : cutV (ns.map V.int) (some (j : Int)) (some (k : Int)) = ((ns.drop j).take (k - j)).map V.int := by
  unfold cutV
  rw [HT.sIx_nat, HT.sIx_nat, List.length_map, List.map_take, List.map_drop]
  by_cases hj : j ≤ ns.length
  · rw [Nat.min_eq_left hj]
    by_cases h : k ≤ ns.length
    · rw [Nat.min_eq_left h]
    · rw [Nat.min_eq_right (by omega), List.take_of_length_le (by simp), List.take_of_length_le (by simp; omega)]
  · have hj' : min j ns.length = ns.length := by omega
    rw [hj', List.drop_of_length_le (by simp), List.drop_of_length_le (l := ns.map V.int) (i := j) (by simp; omega)]
    simp
end L2
namespace L2
open PySem
theorem nox_K {X : Cx} : X.nox.K = X.K := rfl
theorem wish_K {X : Cx} {E : Value → Shared → Prop} : (X.wish E).K = X.K := rfl
section
variable {σ : St} {H : Hp} {Q : VK} {D : Ends} {nn bb cc : St → Hp → Prop} {rr : VK} {t u : TS} {ta tb tc te : TE} {tA tB : TT} {g : TG} {QT : Bool → Hp → Prop} {QA : List V → Hp → Prop} {QS : St → Hp → Prop}
theorem i_seq (h : t ⟨u ⟨nn, rr, bb, cc⟩, rr, bb, cc⟩ σ H) : tSeq t u ⟨nn, rr, bb, cc⟩ σ H := h
theorem i_asg (h : te σ H fun x H1 => g x σ H1 nn) : tAsg te g ⟨nn, rr, bb, cc⟩ σ H := h
theorem i_name {i : Nat} {v : V} (h : QS (σ.set i (some v)) H) : gName i v σ H QS := h
theorem i_var {i : Nat} {v : V} (e : σ[i]? = some (some v)) (h : Q v H) : tVar i σ H Q := ⟨v, e, h⟩
theorem i_c {v : V} (h : Q v H) : tC v σ H Q := h
theorem i_op {r : R2} (h : ta σ H fun x H1 => tb σ H1 fun y H2 => r x y H2 Q) : tOp r ta tb σ H Q := h
theorem i_un {r : V → Hp → VK → Prop} (h : ta σ H fun x H1 => r x H1 Q) : tUn r ta σ H Q := h
theorem i_rU {f : Int → V} {i : Int} (h : Q (f i) H) : rU f (.int i) H Q := ⟨i, rfl, h⟩
theorem i_rI {C : Int → Int → Prop} {f : Int → Int → V} {i j : Int} (c : C i j) (h : Q (f i j) H) : rI C f (.int i) (.int j) H Q := ⟨i, j, rfl, rfl, c, h⟩
theorem i_rI0 {f : Int → Int → V} {i j : Int} (h : Q (f i j) H) : rI0 f (.int i) (.int j) H Q := ⟨i, j, rfl, rfl, h⟩
theorem i_plusI {i j : Int} (h : Q (.int (i + j)) H) : rPlus (.int i) (.int j) H Q := h
theorem i_plusL {l b : Addr} {xs zs : List V} (h1 : H l = some (.lst xs)) (h2 : H b = some (.lst zs)) (z : xs.length + zs.length ≤ sizeLine) (h : New H (.lst (xs ++ zs)) Q) : rPlus (.ref l) (.ref b) H Q := ⟨xs, zs, h1, h2, z, h⟩
theorem i_timesI {i j : Int} (c : CBig i j) (h : Q (.int (i * j)) H) : rTimes (.int i) (.int j) H Q := ⟨c, h⟩
theorem decI (i j : Int) : decide (V.int i = V.int j) = decide (i = j) := by rw [Bool.eq_iff_iff]; simp
theorem decS (i j : Str) : decide (V.str i = V.str j) = decide (i = j) := by rw [Bool.eq_iff_iff]; simp
theorem decB (i j : Bool) : decide (V.bl i = V.bl j) = decide (i = j) := by rw [Bool.eq_iff_iff]; simp
theorem i_eqI {i j : Int} (h : Q (.bl (decide (i = j))) H) : rEq (.int i) (.int j) H Q := ⟨rfl, by rw [decI]; exact h⟩
theorem i_eqS {i j : Str} (h : Q (.bl (decide (i = j))) H) : rEq (.str i) (.str j) H Q := ⟨rfl, by rw [decS]; exact h⟩
theorem i_eqB {i j : Bool} (h : Q (.bl (decide (i = j))) H) : rEq (.bl i) (.bl j) H Q := ⟨rfl, by rw [decB]; exact h⟩
theorem i_neI {i j : Int} (h : Q (.bl (!decide (i = j))) H) : rNe (.int i) (.int j) H Q := ⟨rfl, by rw [decI]; exact h⟩
theorem i_neS {i j : Str} (h : Q (.bl (!decide (i = j))) H) : rNe (.str i) (.str j) H Q := ⟨rfl, by rw [decS]; exact h⟩
theorem i_neB {i j : Bool} (h : Q (.bl (!decide (i = j))) H) : rNe (.bl i) (.bl j) H Q := ⟨rfl, by rw [decB]; exact h⟩
theorem i_test (h : te σ H fun x H' => ∃ k, x = .bl k ∧ QT k H') : tTest te σ H QT := h
theorem i_bl {k : Bool} {p : Bool → Prop} (h : p k) : ∃ j, V.bl k = V.bl j ∧ p j := ⟨k, rfl, h⟩
theorem i_ifS (h : tA σ H fun b H1 => if b = true then t D σ H1 else u D σ H1) : tIfS tA t u D σ H := h
theorem i_if (h : tA σ H fun b H1 => if b = true then ta σ H1 Q else tb σ H1 Q) : tIf tA ta tb σ H Q := h
theorem i_ret (h : te σ H rr) : tRet te ⟨nn, rr, bb, cc⟩ σ H := h
theorem i_retN (h : rr .non H) : tRetN ⟨nn, rr, bb, cc⟩ σ H := h
theorem i_next (h : nn σ H) : tNext ⟨nn, rr, bb, cc⟩ σ H := h
theorem i_drop (h : te σ H fun _ H1 => nn σ H1) : tDrop te ⟨nn, rr, bb, cc⟩ σ H := h
theorem i_break (h : bb σ H) : tBreak ⟨nn, rr, bb, cc⟩ σ H := h
theorem i_cont (h : cc σ H) : tCont ⟨nn, rr, bb, cc⟩ σ H := h
theorem i_cons {tr : TA} (h : te σ H fun x H1 => tr σ H1 fun xs H2 => QA (x :: xs) H2) : tCons te tr σ H QA := h
theorem i_nil (h : QA [] H) : tNil σ H QA := h
theorem i_cb {r : List V → Hp → VK → Prop} {ts : TA} (h : ts σ H fun vs H1 => r vs H1 Q) : tCB r ts σ H Q := h
theorem i_call {sp : Sp} {dvs : List V} {E : XK} {ts : TA} (h : ts σ H fun vs H1 => sp (vs ++ dvs) H1 Q E) : tCall sp dvs E ts σ H Q := h
theorem i_lst {ts : TA} (h : ts σ H fun xs H1 => xs.length ≤ sizeLine ∧ New H1 (.lst xs) Q) : tLstN ts σ H Q := h
theorem i_tup {ts : TA} (h : ts σ H fun xs H1 => xs.length ≤ sizeLine ∧ New H1 (.tup xs) Q) : tTupN ts σ H Q := h
theorem i_szA {n : Nat} {P : Prop} (h : n ≤ sizeLine) (p : P) : n ≤ sizeLine ∧ P := ⟨h, p⟩
theorem i_rgA {j : Int} {P : Prop} (h : -(2 ^ 62) ≤ j) (h' : j < 2 ^ 62) (p : P) : -(2 ^ 62) ≤ j ∧ j < 2 ^ 62 ∧ P := ⟨h, h', p⟩
theorem i_noIf (h : QT true H) : tNoIf σ H QT := h
theorem i_not (h : tA σ H fun c H1 => QT (!c) H1) : tNot tA σ H QT := h
theorem i_and (h : tA σ H fun c H1 => if c = true then tB σ H1 QT else QT false H1) : tAnd tA tB σ H QT := h
theorem i_or (h : tA σ H fun c H1 => if c = true then QT true H1 else tB σ H1 QT) : tOr tA tB σ H QT := h
theorem i_andV (h : ta σ H fun x H1 => ∃ c, x = .bl c ∧ if c = true then tb σ H1 Q else Q (.bl false) H1) : tAndV ta tb σ H Q := h
theorem i_orV (h : ta σ H fun x H1 => ∃ c, x = .bl c ∧ if c = true then Q (.bl true) H1 else tb σ H1 Q) : tOrV ta tb σ H Q := h
theorem i_notV (h : ta σ H fun x H1 => ∃ c, x = .bl c ∧ Q (.bl (!c)) H1) : tNotV ta σ H Q := h
theorem i_strS {z : Str} (h : Q (.str z) H) : rStr [.str z] H Q := h
theorem i_for {wi : TI} (h : wi σ H fun J H1 => ForEnd J g t D σ H1) : tFor wi g t D σ H := h
theorem i_lc {wi : TI} {n : Nat} {caps : List Nat} (h : wi σ H fun J H1 => CompEnd J g tA te n caps σ H1 Q) : tLC wi g tA te n caps σ H Q := h
theorem i_rng1 {R : It → Hp → Prop} {ts : TA} (h : ts σ H fun vs H1 => ∃ j : Int, vs = [.int j] ∧ -(2 ^ 62) ≤ j ∧ j < 2 ^ 62 ∧ R (Itr 0 j.toNat) H1) : iRng1 ts σ H R := h
theorem i_iList {K : PySem.W.Frag} {R : It → Hp → Prop} (h : te σ H fun x H1 => ∃ a, x = .ref a ∧ (∃ xs, SqL K H1 a xs) ∧ R (Itl K a) H1) : iList K te σ H R := h
theorem i_iTup {K : PySem.W.Frag} {R : It → Hp → Prop} (h : te σ H fun x H1 => ∃ a, x = .ref a ∧ (∃ xs, SqT K H1 a xs) ∧ R (Itt K a) H1) : iTup K te σ H R := h
theorem i_iStr {R : It → Hp → Prop} (h : te σ H fun x H1 => ∃ z, x = .str z ∧ R (Its z) H1) : iStr te σ H R := h
theorem i_rng {j : Int} {p : Int → Prop} (h : p j) : ∃ i : Int, [V.int j] = [V.int i] ∧ p i := ⟨j, rfl, h⟩
theorem i_ref {a : Addr} {p : Addr → Prop} (h : p a) : ∃ b, V.ref a = V.ref b ∧ p b := ⟨a, rfl, h⟩
theorem i_sx {z : Str} {p : Str → Prop} (h : p z) : ∃ b, V.str z = V.str b ∧ p b := ⟨z, rfl, h⟩
theorem i_bm {K : PySem.W.Frag} {T : String} {r : V → List V → Hp → VK → Prop} {to : TE} {ts : TA} (h : to σ H fun x H1 => tyV K T x H1 ∧ ts σ H1 fun xs H2 => r x xs H2 Q) : tBM K T r to ts σ H Q := h
theorem i_bm0 {K : PySem.W.Frag} {T : String} {r : V → List V → Hp → VK → Prop} {to : TE} (h : to σ H fun x H1 => tyV K T x H1 ∧ r x [] H1 Q) : tBM0 K T r to σ H Q := h
theorem i_tyS {K : PySem.W.Frag} {z : Str} {P : Prop} (h : P) : tyV K "str" (.str z) H ∧ P := ⟨rfl, h⟩
theorem i_ixL {K : PySem.W.Frag} {p : Addr} {xs : List V} {i : Int} {v : V} (h1 : SqL K H p xs) (h2 : atI xs i = some v) (h : Q v H) : rIxL K (.ref p) (.int i) H Q := ⟨p, xs, i, v, rfl, rfl, h1, h2, h⟩
theorem i_ixT {K : PySem.W.Frag} {p : Addr} {xs : List V} {i : Int} {v : V} (h1 : SqT K H p xs) (h2 : atI xs i = some v) (h : Q v H) : rIxT K (.ref p) (.int i) H Q := ⟨p, xs, i, v, rfl, rfl, h1, h2, h⟩
theorem i_sl {r : V → Option Int → Option Int → Hp → VK → Prop} {tl th : TO} (h : te σ H fun x H1 => tl σ H1 fun l H2 => th σ H2 fun u H3 => r x l u H3 Q) : tSl r te tl th σ H Q := h
theorem i_nopart {QO : Option Int → Hp → Prop} (h : QO none H) : tNoPart σ H QO := h
theorem i_part {QO : Option Int → Hp → Prop} (h : te σ H fun x H1 => ∃ i, x = .int i ∧ QO (some i) H1) : tPart te σ H QO := h
theorem i_ix1 {i : Int} {p : Int → Prop} (h : p i) : ∃ j, V.int i = V.int j ∧ p j := ⟨i, rfl, h⟩
theorem i_slL {K : PySem.W.Frag} {a : Addr} {xs : List V} {lo hi : Option Int} (h1 : SqL K H a xs) (h : New H (.lst (cutV xs lo hi)) Q) : rSlN K (.ref a) lo hi H Q := ⟨a, xs, rfl, h1, h⟩
theorem i_itT {A B : Prop} (h : A) : if true = true then A else B := iteT h
theorem i_itF {A B : Prop} (h : B) : if false = true then A else B := iteF h
theorem i_itnT {A B : Prop} (h : B) : if (!true) = true then A else B := iteF h
theorem i_itnF {A B : Prop} (h : A) : if (!false) = true then A else B := iteT h
theorem i_chain {r r' : R2} (h : ta σ H fun x H1 => tb σ H1 fun y H2 => r x y H2 fun z H3 => ∃ k, z = .bl k ∧ (if k = true then tc σ H3 fun w' H4 => r' y w' H4 Q else Q (.bl false) H3)) : tChain r r' ta tb tc σ H Q := h
theorem i_asgT {K : PySem.W.Frag} {n : Nat} {ts : TGs} {a : Addr} {xs : List V} (h1 : SqT K H a xs) (h2 : xs.length = n) (h : ts xs σ H QS) : gTup K n ts (.ref a) σ H QS := ⟨a, xs, rfl, h1, h2, h⟩
theorem i_gnil (h : QS σ H) : gNil [] σ H QS := ⟨rfl, h⟩
theorem i_gcons {gt : TG} {us : TGs} {v : V} {r : List V} (h : gt v σ H fun σ' H' => us r σ' H' QS) : gCons gt us (v :: r) σ H QS := ⟨v, r, rfl, h⟩
theorem i_find {z y : Str} (h : Q (.int (Txt.find z y)) H) : rFind (.str z) [.str y] H Q := ⟨z, y, rfl, rfl, h⟩
theorem i_isiS {K : PySem.W.Frag} {z : Str} (h : Q (.bl true) H) : rIsi K [V.str z, V.ty "str"] H Q := ⟨_, _, _, true, rfl, .str z, rfl, h⟩
theorem i_isiB {K : PySem.W.Frag} {z : Bool} (h : Q (.bl true) H) : rIsi K [V.bl z, V.ty "bool"] H Q := ⟨_, _, _, true, rfl, .bl z, rfl, h⟩
theorem i_isiI {K : PySem.W.Frag} {z : Int} (h : Q (.bl true) H) : rIsi K [V.int z, V.ty "int"] H Q := ⟨_, _, _, true, rfl, .int z, rfl, h⟩
theorem i_isiIB {K : PySem.W.Frag} {z : Int} (h : Q (.bl false) H) : rIsi K [V.int z, V.ty "bool"] H Q := ⟨_, _, _, false, rfl, .int z, by rfl, h⟩
theorem i_tru {K : PySem.W.Frag} (h : te σ H fun x H' => ∃ k, TruV K x H' k ∧ QT k H') : tTru K te σ H QT := h
theorem i_truB {K : PySem.W.Frag} {k : Bool} {p : Bool → Prop} (h : p k) : ∃ j, TruV K (.bl k) H j ∧ p j := ⟨k, rfl, h⟩
theorem i_lenL {K : PySem.W.Frag} {p : Addr} {xs : List V} (h1 : SqL K H p xs) (h : Q (.int xs.length) H) : rLen K [V.ref p] H Q := ⟨_, _, rfl, .inl ⟨xs, h1, rfl⟩, h⟩
theorem i_intB {k : Bool} (h : Q (.int (if k then 1 else 0)) H) : rToInt [V.bl k] H Q := .inr ⟨k, rfl, h⟩
theorem i_intI {k : Int} (h : Q (.int k) H) : rToInt [V.int k] H Q := .inl ⟨k, rfl, h⟩
theorem i_isB {a b : Bool} (h : Q (.bl (a == b)) H) : rIsB (.bl a) (.bl b) H Q := ⟨a, b, rfl, rfl, h⟩
theorem i_inS {x y : Str} (h : Q (.bl (!(Builtin.Str.occurrences y x 0 y.length 1).isEmpty)) H) : rInS (.str x) (.str y) H Q := ⟨x, y, rfl, rfl, h⟩
theorem i_listL {K : PySem.W.Frag} {p : Addr} {ys : List V} (h1 : SqL K H p ys) (h : New H (.lst ys) Q) : rListN K [.ref p] H Q := ⟨p, ys, rfl, .inl h1, h⟩
theorem i_tupleL {K : PySem.W.Frag} {p : Addr} {ys : List V} (h1 : SqL K H p ys) (h : New H (.tup ys) Q) : rTupleN K [.ref p] H Q := ⟨p, ys, rfl, h1, h⟩
end
end L2
namespace L2
open PySem PySem.Spec PyProof.Rows
def rIndex (K : PySem.W.Frag) : V → List V → Hp → VK → Prop := fun x vs H Q => ∃ l ys y j, x = .ref l ∧ vs = [.str y] ∧ SqL K H l (strsV ys) ∧ ys[j]? = some y ∧ (∀ m, m < j → ys[m]? ≠ some y) ∧ Q (.int (j : Nat)) H
section
variable {X : Cx}
def rNeE (K : PySem.W.Frag) (neg : Bool) : R2 := fun x y H Q => ∃ l b xs, x = .ref l ∧ y = .ref b ∧ SqL K H l xs ∧ SqL K H b [] ∧ Q (.bl (if neg then !xs.isEmpty else xs.isEmpty)) H
def refsV : List V → Bool := fun xs => xs.all fun x => match x with | .ref _ => true | _ => false
def rEqR (K : PySem.W.Frag) : R2 := fun x y H Q => ∃ l b xs, x = .ref l ∧ y = .ref b ∧ SqL K H l xs ∧ SqL K H b xs ∧ refsV xs = true ∧ Q (.bl true) H
end
section
variable {σ : St} {H : Hp} {Q : VK}
theorem i_append {l : Addr} {xs : List V} {y : V} (h1 : H l = some (.lst xs)) (hz : xs.length < sizeLine) (h : Q .non (upd H l (.lst (xs ++ [y])))) : rAppend (.ref l) [y] H Q := ⟨l, xs, y, rfl, rfl, h1, hz, h⟩
theorem i_tyL {K : PySem.W.Frag} {l : Addr} {xs : List V} {P : Prop} (h1 : SqL K H l xs) (h : P) : tyV K "list" (.ref l) H ∧ P := ⟨.inl ⟨rfl, xs, h1⟩, h⟩
end
def Tups (H H' : Hp) : Prop := ∀ b xs, H b = some (.tup xs) → H' b = some (.tup xs)
theorem Same.tups {H H' : Hp} (s : Same H H') : Tups H H' := fun b xs h => s b _ h
theorem Tups.trans {H H1 H2 : Hp} (a : Tups H H1) (b : Tups H1 H2) : Tups H H2 := fun c xs h => b c xs (a c xs h)
theorem Tups.refl (H : Hp) : Tups H H := fun _ _ h => h
theorem Tups.upd {H : Hp} {l : Addr} {xs : List V} {o : HO} (h : H l = some (.lst xs)) : Tups H (upd H l o) := fun b ys e => by rw [upd_ne (ne_of e h (fun z => nomatch z))]; exact e
end L2
namespace L2
open PySem
theorem Same.updNew {H H1 : Hp} {l : Addr} {o : HO} (s : Same H H1) (h : H l = none) : Same H (upd H1 l o) := fun b u e => by rw [upd_ne (ne_of_none e h)]; exact s b u e
inductive Ex where
  | num (i : Int)
  | box (n : Str)
  | two (k : Bool) (a b : Ex)
def Ex.h : Ex → Nat
  | .num _ => 0
  | .box _ => 0
  | .two _ a b => max a.h b.h + 1
def Ex.sz : Ex → Nat
  | .num _ => 1
  | .box _ => 1
  | .two _ a b => a.sz + b.sz + 1
def Ex.ok (ns : List Str) : Ex → Prop
  | .num i => 0 ≤ i ∧ i < 10
  | .box n => n ∈ ns
  | .two _ a b => a.ok ns ∧ b.ok ns
def markS (k : Bool) : Str := if k then "plus" else "less"
def Ex.At (H : Hp) : Ex → V → Prop
  | .num i, v => ∃ a, v = .ref a ∧ H a = some (.tup [.str "number", .int i])
  | .box n, v => ∃ a, v = .ref a ∧ H a = some (.tup [.str "box", .str n])
  | .two k e f, v => ∃ a x y, v = .ref a ∧ H a = some (.tup [.str (markS k), x, y]) ∧ e.At H x ∧ f.At H y
theorem Ex.At.mono {H H' : Hp} (t : Tups H H') : ∀ {e : Ex} {v : V}, e.At H v → e.At H' v
  | .num _, _, ⟨a, h1, h2⟩ => ⟨a, h1, t _ _ h2⟩
  | .box _, _, ⟨a, h1, h2⟩ => ⟨a, h1, t _ _ h2⟩
  | .two _ e f, _, ⟨a, x, y, h1, h2, h3, h4⟩ => ⟨a, x, y, h1, t _ _ h2, Ex.At.mono t h3, Ex.At.mono t h4⟩
def bval : List Str → List Int → Str → Int
  | m :: ns, v :: vs, n => if m = n then v else bval ns vs n
  | _, _, _ => 0
def Ex.ev (ns : List Str) (vs : List Int) : Ex → Int
  | .num i => i
  | .box n => bval ns vs n
  | .two k a b => if k then a.ev ns vs + b.ev ns vs else a.ev ns vs - b.ev ns vs
def fsum : List Str → List Int → Str → Int
  | m :: ns, v :: vs, n => (if m = n then v else 0) + fsum ns vs n
  | _, _, _ => 0
inductive Boxes (H : Hp) : List V → List Str → Prop
  | nil : Boxes H [] []
  | cons {p : Addr} {n : Str} {z : Int} {xs ns} : H p = some (.tup [.str n, .int z]) → Boxes H xs ns → Boxes H (.ref p :: xs) (n :: ns)
theorem Boxes.mono {H H' : Hp} (t : Tups H H') {xs : List V} {ns : List Str} (b : Boxes H xs ns) : Boxes H' xs ns := by
  induction b with
  | nil => exact .nil
  | cons h _ ih => exact .cons (t _ _ h) ih
theorem Boxes.len {H : Hp} {xs : List V} {ns : List Str} (b : Boxes H xs ns) : xs.length = ns.length := by
  induction b with
  | nil => rfl
  | cons _ _ ih => simp [ih]
theorem Boxes.get {H : Hp} : ∀ {xs : List V} {ns : List Str}, Boxes H xs ns → ∀ (i : Nat) (x : V), xs[i]? = some x → ∃ (p : Addr) (n : Str) (z : Int), x = .ref p ∧ ns[i]? = some n ∧ H p = some (.tup [.str n, .int z])
  | _, _, .nil, i, x, e => by simp at e
  | _, _, .cons h r, 0, x, e => by simp at e; subst e; exact ⟨_, _, _, rfl, rfl, h⟩
  | _, _, .cons h r, i + 1, x, e => r.get i x (by simpa using e)
theorem Boxes.snoc {H : Hp} {xs : List V} {ns : List Str} (b : Boxes H xs ns) {p : Addr} {n : Str} {z : Int} (h : H p = some (.tup [.str n, .int z])) : Boxes H (xs ++ [.ref p]) (ns ++ [n]) := by
  induction b with
  | nil => exact .cons h .nil
  | cons h' _ ih => exact .cons h' ih
inductive Pile (H : Hp) : List V → List (Ex × Int) → Prop
  | nil : Pile H [] []
  | snoc {p : Addr} {x : V} {e : Ex} {s : Int} {xs ps} : Pile H xs ps → H p = some (.tup [x, .int s]) → e.At H x → (s = 1 ∨ s = -1) → Pile H (xs ++ [.ref p]) ((e, s) :: ps)
theorem Pile.mono {H H' : Hp} (t : Tups H H') {xs : List V} {ps : List (Ex × Int)} (b : Pile H xs ps) : Pile H' xs ps := by
  induction b with
  | nil => exact .nil
  | snoc _ h1 h2 h3 ih => exact .snoc ih (t _ _ h1) (h2.mono t) h3
def psum (ns : List Str) (vs : List Int) : List (Ex × Int) → Int
  | [] => 0
  | (e, s) :: r => s * e.ev ns vs + psum ns vs r
def psz : List (Ex × Int) → Nat
  | [] => 0
  | (e, _) :: r => e.sz + psz r
def pok (ns : List Str) : List (Ex × Int) → Prop
  | [] => True
  | (e, _) :: r => e.ok ns ∧ pok ns r
end L2
namespace L2
open PySem PySem.Spec PyProof.Rows
def rEqB (K : PySem.W.Frag) : R2 := fun x y H Q => ∃ l b ys zs, x = .ref l ∧ y = .ref b ∧ SqL K H l (blsV ys) ∧ SqL K H b (blsV zs) ∧ ys.length = zs.length ∧ Q (.bl (decide (ys = zs))) H
inductive Cd where
  | cmp (k : Bool) (a b : Ex)
  | nt (c : Cd)
  | both (c d : Cd)
def Cd.h : Cd → Nat
  | .cmp _ _ _ => 0
  | .nt c => c.h + 1
  | .both c d => max c.h d.h + 1
def Cd.ok (ns : List Str) (n : Nat) : Cd → Prop
  | .cmp _ a b => (a.ok ns ∧ a.h ≤ n) ∧ b.ok ns ∧ b.h ≤ n
  | .nt c => c.ok ns n
  | .both c d => c.ok ns n ∧ d.ok ns n
def markC (k : Bool) : Str := if k then "same" else "under"
def Cd.At (H : Hp) : Cd → V → Prop
  | .cmp k e f, v => ∃ a x y, v = .ref a ∧ H a = some (.tup [.str (markC k), x, y]) ∧ e.At H x ∧ f.At H y
  | .nt c, v => ∃ a x, v = .ref a ∧ H a = some (.tup [.str "not", x]) ∧ c.At H x
  | .both c d, v => ∃ a x y, v = .ref a ∧ H a = some (.tup [.str "both", x, y]) ∧ c.At H x ∧ d.At H y
theorem Cd.At.mono {H H' : Hp} (t : Tups H H') : ∀ {c : Cd} {v : V}, c.At H v → c.At H' v
  | .cmp _ e f, _, ⟨a, x, y, h1, h2, h3, h4⟩ => ⟨a, x, y, h1, t _ _ h2, h3.mono t, h4.mono t⟩
  | .nt c, _, ⟨a, x, h1, h2, h3⟩ => ⟨a, x, h1, t _ _ h2, Cd.At.mono t h3⟩
  | .both c d, _, ⟨a, x, y, h1, h2, h3, h4⟩ => ⟨a, x, y, h1, t _ _ h2, Cd.At.mono t h3, Cd.At.mono t h4⟩
def Cd.ev (ns : List Str) (vs : List Int) : Cd → Bool
  | .cmp k a b => if k then decide (a.ev ns vs = b.ev ns vs) else decide (a.ev ns vs < b.ev ns vs)
  | .nt c => !c.ev ns vs
  | .both c d => c.ev ns vs && d.ev ns vs
end L2
namespace L2
open PySem PySem.Spec PyProof.Rows
def rSplit : V → List V → Hp → VK → Prop := fun x vs H Q => ∃ z y, x = .str z ∧ vs = [.str y] ∧ (y.length == 0) = false ∧ z.length + 2 ≤ sizeLine ∧ New H (.lst (strsV (Txt.split z y))) Q
def jl (c : Nat) : List (List Nat) → List Nat
  | [] => []
  | [x] => x
  | x :: y :: r => x ++ c :: jl c (y :: r)
theorem jl_inj {c : Nat} : ∀ {xs ys : List (List Nat)}, xs ≠ [] → ys ≠ [] → (∀ x ∈ xs, c ∉ x) → (∀ y ∈ ys, c ∉ y) → jl c xs = jl c ys → xs = ys
  | [], _, h, _, _, _, _ => absurd rfl h
  | _, [], _, h, _, _, _ => absurd rfl h
  | [x], [y], _, _, _, _, e => by simp only [jl] at e; rw [e]
  | [x], y :: z :: r, _, _, hx, _, e => by
    simp only [jl] at e
    exact absurd (show c ∈ x by rw [e]; simp) (hx x (by simp))
  | x :: z :: r, [y], _, _, _, hy, e => by
    simp only [jl] at e
    exact absurd (show c ∈ y by rw [← e]; simp) (hy y (by simp))
  | x :: z :: r, y :: w :: r', _, _, hx, hy, e => by
    simp only [jl] at e
    have cut : ∀ (a b : List Nat) (s t : List Nat), c ∉ a → c ∉ b → a ++ c :: s = b ++ c :: t → a = b ∧ s = t := by
      intro a
      induction a with
      | nil =>
        intro b s t _ hb e
        cases b with
        | nil => simpa using e
        | cons d b =>
          simp only [List.nil_append, List.cons_append, List.cons.injEq] at e
          exact absurd (show c ∈ d :: b by rw [e.1]; simp) hb
      | cons d a ih =>
        intro b s t ha hb e
        cases b with
        | nil =>
          simp only [List.nil_append, List.cons_append, List.cons.injEq] at e
          exact absurd (show c ∈ d :: a by rw [← e.1]; simp) ha
        | cons d' b =>
          simp only [List.cons_append, List.cons.injEq] at e
          obtain ⟨h1, h2⟩ := ih b s t (fun h => ha (List.mem_cons_of_mem _ h)) (fun h => hb (List.mem_cons_of_mem _ h)) e.2
          exact ⟨by rw [e.1, h1], h2⟩
    obtain ⟨h1, h2⟩ := cut _ _ _ _ (hx x (by simp)) (hy y (by simp)) e
    have := jl_inj (by simp) (by simp) (fun a h => hx a (List.mem_cons_of_mem _ h)) (fun a h => hy a (List.mem_cons_of_mem _ h)) h2
    rw [h1, this]
theorem join_jl (c : Nat) : ∀ ws : List Str, (Str.join ⟨#[c]⟩ ws).cps.toList = jl c (ws.map fun w => w.cps.toList)
  | [] => rfl
  | [x] => rfl
  | x :: y :: r => by
    show (x ++ (⟨#[c]⟩ : Str) ++ Str.join ⟨#[c]⟩ (y :: r)).cps.toList = _
    rw [sx_app, sx_app, join_jl c (y :: r)]
    simp [jl]
theorem split_join {c : Nat} {ws : List Str} (hne : ws ≠ []) (hf : ∀ w ∈ ws, c ∉ w.cps.toList) : Txt.split (Str.join ⟨#[c]⟩ ws) ⟨#[c]⟩ = ws := by
  have h1 := StrLaws.join_split (Str.join ⟨#[c]⟩ ws) ⟨#[c]⟩
  have h2 := congrArg (fun z : Str => z.cps.toList) h1
  simp only [join_jl] at h2
  have hp := split_pos (Str.join ⟨#[c]⟩ ws) ⟨#[c]⟩
  have h3 := jl_inj (xs := (Txt.split (Str.join ⟨#[c]⟩ ws) ⟨#[c]⟩).map fun w => w.cps.toList) (ys := ws.map fun w => w.cps.toList)
    (fun e => by have := congrArg List.length e; simp only [List.length_map, List.length_nil] at this; omega) (fun e => hne (by simpa using e))
    (fun x hx => by
      obtain ⟨w, hw, rfl⟩ := List.mem_map.mp hx
      exact StrLaws.split_free _ c w hw)
    (fun x hx => by
      obtain ⟨w, hw, rfl⟩ := List.mem_map.mp hx
      exact hf w hw) h2
  have inj : ∀ {a b : List Str}, (a.map fun w => w.cps.toList) = (b.map fun w => w.cps.toList) → a = b := by
    intro a
    induction a with
    | nil => intro b h; cases b with
      | nil => rfl
      | cons y b => simp at h
    | cons x a ih => intro b h; cases b with
      | nil => simp at h
      | cons y b =>
        simp only [List.map_cons, List.cons.injEq] at h
        rw [sx_ext h.1, ih h.2]
  exact inj h3
theorem join_app (s : Str) : ∀ {a b : List Str}, a ≠ [] → b ≠ [] → Str.join s (a ++ b) = Str.join s a ++ s ++ Str.join s b
  | [], _, h, _ => absurd rfl h
  | _, [], _, h => absurd rfl h
  | [x], y :: b, _, _ => rfl
  | x :: z :: a, y :: b, _, _ => by
    show x ++ s ++ Str.join s ((z :: a) ++ (y :: b)) = x ++ s ++ Str.join s (z :: a) ++ s ++ Str.join s (y :: b)
    rw [join_app s (by simp) (by simp), sx_assoc, sx_assoc, sx_assoc, sx_assoc, sx_assoc]
end L2
namespace L2
open PySem
abbrev bl1 : Str := ⟨#[32]⟩
def Tx (ws : List Str) : Str := Str.join bl1 ws
def sgnE (k : Bool) : Str := if k then "+" else "-"
def sgnC (k : Bool) : Str := if k then "=" else "<"
def Ex.words : Ex → List Str
  | .num i => [Str.ofString (toString i)]
  | .box n => [n]
  | .two k a b => Str.ofString "(" :: ((a.words ++ sgnE k :: b.words) ++ [Str.ofString ")"])
def Cd.words : Cd → List Str
  | .cmp k a b => a.words ++ sgnC k :: b.words
  | .nt c => Str.ofString "not" :: c.words
  | .both c d => Str.ofString "(" :: ((c.words ++ Str.ofString "and" :: d.words) ++ [Str.ofString ")"])
def Ex.names : Ex → List Str
  | .num _ => []
  | .box n => [n]
  | .two _ a b => a.names ++ b.names
def Cd.names : Cd → List Str
  | .cmp _ a b => a.names ++ b.names
  | .nt c => c.names
  | .both c d => c.names ++ d.names
theorem Ex.words_ne : ∀ e : Ex, e.words ≠ []
  | .num _ => by simp [Ex.words]
  | .box _ => by simp [Ex.words]
  | .two _ _ _ => by simp [Ex.words]
theorem Cd.words_ne : ∀ c : Cd, c.words ≠ []
  | .cmp _ a _ => by simp [Cd.words]
  | .nt _ => by simp [Cd.words]
  | .both _ _ => by simp [Cd.words]
theorem tx_mid {a b : List Str} (m : Str) (ha : a ≠ []) (hb : b ≠ []) : Tx (a ++ m :: b) = Tx a ++ (bl1 ++ m ++ bl1) ++ Tx b := by
  unfold Tx
  rw [show a ++ m :: b = a ++ ([m] ++ b) from rfl, join_app bl1 ha (by simp), join_app bl1 (a := [m]) (by simp) hb]
  show Str.join bl1 a ++ bl1 ++ (m ++ bl1 ++ Str.join bl1 b) = _
  simp only [sx_assoc]
theorem tx_cons (m : Str) {a : List Str} (ha : a ≠ []) : Tx (m :: a) = m ++ bl1 ++ Tx a := by
  unfold Tx
  rw [show m :: a = [m] ++ a from rfl, join_app bl1 (a := [m]) (by simp) ha]
  rfl
theorem tx_snoc (m : Str) {a : List Str} (ha : a ≠ []) : Tx (a ++ [m]) = Tx a ++ (bl1 ++ m) := by
  unfold Tx
  rw [join_app bl1 ha (by simp)]
  show Str.join bl1 a ++ bl1 ++ m = _
  rw [sx_assoc]
def isLow (y : Str) : Bool := !y.cps.toList.isEmpty && y.cps.toList.all fun c => decide (97 ≤ c) && decide (c ≤ 122)
structure Good (ys : List Str) : Prop where
  low : ∀ y ∈ ys, isLow y = true
  nt : (Str.ofString "not") ∉ ys
  an : (Str.ofString "and") ∉ ys
  ln : ∀ y ∈ ys, y.length ≤ 8
theorem Good.no {ys : List Str} (g : Good ys) {y : Str} (h : isLow y = false) : y ∉ ys := fun m => by
  have := g.low y m
  rw [h] at this
  cases this
theorem low_noblank {y : Str} (h : isLow y = true) : 32 ∉ y.cps.toList := fun m => by
  unfold isLow at h
  rw [Bool.and_eq_true, List.all_eq_true] at h
  have := h.2 32 m
  simp at this
theorem dig_facts {i : Int} (h0 : 0 ≤ i) (h1 : i < 10) : isLow (Str.ofString (toString i)) = false ∧ 32 ∉ (Str.ofString (toString i)).cps.toList := by
  rcases dig_cases h0 h1 with rfl | rfl | rfl | rfl | rfl | rfl | rfl | rfl | rfl | rfl <;> decide +kernel
theorem mark_facts : ∀ m ∈ ([Str.ofString "(", Str.ofString ")", Str.ofString "+", Str.ofString "-", Str.ofString "=", Str.ofString "<"] : List Str), isLow m = false ∧ 32 ∉ m.cps.toList ∧ m.length = 1 := by decide +kernel
theorem sgnE_in (k : Bool) : sgnE k ∈ ([Str.ofString "(", Str.ofString ")", Str.ofString "+", Str.ofString "-", Str.ofString "=", Str.ofString "<"] : List Str) := by cases k <;> decide +kernel
theorem sgnC_in (k : Bool) : sgnC k ∈ ([Str.ofString "(", Str.ofString ")", Str.ofString "+", Str.ofString "-", Str.ofString "=", Str.ofString "<"] : List Str) := by cases k <;> decide +kernel
theorem brL_in : Str.ofString "(" ∈ ([Str.ofString "(", Str.ofString ")", Str.ofString "+", Str.ofString "-", Str.ofString "=", Str.ofString "<"] : List Str) := by decide +kernel
theorem brR_in : Str.ofString ")" ∈ ([Str.ofString "(", Str.ofString ")", Str.ofString "+", Str.ofString "-", Str.ofString "=", Str.ofString "<"] : List Str) := by decide +kernel
def pick (ys ws : List Str) : List Str := ws.filter fun w => decide (w ∈ ys)
theorem pick_app (ys a b : List Str) : pick ys (a ++ b) = pick ys a ++ pick ys b := List.filter_append ..
theorem pick_no {ys : List Str} {w : Str} (r : List Str) (h : w ∉ ys) : pick ys (w :: r) = pick ys r := by unfold pick; rw [List.filter_cons, if_neg (by simpa using h)]
theorem pick_nil (ys : List Str) : pick ys [] = [] := rfl
theorem Ex.pick {ys : List Str} (g : Good ys) : ∀ e : Ex, e.ok ys → L2.pick ys e.words = e.names
  | .num i, h => by
    have hi := (dig_facts h.1 h.2).1
    simp only [Ex.words, Ex.names]
    rw [pick_no _ (g.no hi), pick_nil]
  | .box n, h => by
    have h' : n ∈ ys := h
    simp [Ex.words, Ex.names, L2.pick, h']
  | .two k a b, h => by
    simp only [Ex.words, Ex.names]
    rw [pick_no _ (g.no (mark_facts _ brL_in).1), pick_app, pick_app, pick_no _ (g.no (mark_facts _ (sgnE_in k)).1), pick_no _ (g.no (mark_facts _ brR_in).1), pick_nil, Ex.pick g a h.1, Ex.pick g b h.2, List.append_nil]
theorem Cd.pick {ys : List Str} {n : Nat} (g : Good ys) : ∀ c : Cd, c.ok ys n → L2.pick ys c.words = c.names
  | .cmp k a b, h => by
    simp only [Cd.words, Cd.names]
    rw [pick_app, pick_no _ (g.no (mark_facts _ (sgnC_in k)).1), Ex.pick g a h.1.1, Ex.pick g b h.2.1]
  | .nt c, h => by
    simp only [Cd.words, Cd.names]
    rw [pick_no _ g.nt, Cd.pick g c h]
  | .both c d, h => by
    simp only [Cd.words, Cd.names]
    rw [pick_no _ (g.no (mark_facts _ brL_in).1), pick_app, pick_app, pick_no _ g.an, pick_no _ (g.no (mark_facts _ brR_in).1), pick_nil, Cd.pick g c h.1, Cd.pick g d h.2, List.append_nil]
theorem Ex.noblank {ys : List Str} (g : Good ys) : ∀ e : Ex, e.ok ys → ∀ w ∈ e.words, 32 ∉ w.cps.toList
  | .num i, h, w, hw => by
    simp only [Ex.words, List.mem_singleton] at hw
    subst hw
    exact (dig_facts h.1 h.2).2
  | .box n, h, w, hw => by
    simp only [Ex.words, List.mem_singleton] at hw
    subst hw
    exact low_noblank (g.low _ h)
  | .two k a b, h, w, hw => by
    simp only [Ex.words, List.mem_cons, List.mem_append, List.mem_singleton, List.not_mem_nil, or_false] at hw
    rcases hw with rfl | (hw | rfl | hw) | rfl
    · exact (mark_facts _ brL_in).2.1
    · exact Ex.noblank g a h.1 w hw
    · exact (mark_facts _ (sgnE_in k)).2.1
    · exact Ex.noblank g b h.2 w hw
    · exact (mark_facts _ brR_in).2.1
theorem Cd.noblank {ys : List Str} {n : Nat} (g : Good ys) : ∀ c : Cd, c.ok ys n → ∀ w ∈ c.words, 32 ∉ w.cps.toList
  | .cmp k a b, h, w, hw => by
    simp only [Cd.words, List.mem_cons, List.mem_append] at hw
    rcases hw with hw | rfl | hw
    · exact Ex.noblank g a h.1.1 w hw
    · exact (mark_facts _ (sgnC_in k)).2.1
    · exact Ex.noblank g b h.2.1 w hw
  | .nt c, h, w, hw => by
    simp only [Cd.words, List.mem_cons] at hw
    rcases hw with rfl | hw
    · decide +kernel
    · exact Cd.noblank g c h w hw
  | .both c d, h, w, hw => by
    simp only [Cd.words, List.mem_cons, List.mem_append, List.mem_singleton, List.not_mem_nil, or_false] at hw
    rcases hw with rfl | (hw | rfl | hw) | rfl
    · exact (mark_facts _ brL_in).2.1
    · exact Cd.noblank g c h.1 w hw
    · decide +kernel
    · exact Cd.noblank g d h.2 w hw
    · exact (mark_facts _ brR_in).2.1
inductive Th where
  | ex (e : Ex)
  | cd (c : Cd)
def Cd.hh : Cd → Nat
  | .cmp _ a b => max a.h b.h + 1
  | .nt c => c.hh + 1
  | .both c d => max c.hh d.hh + 1
def Cd.sz : Cd → Nat
  | .cmp _ a b => a.sz + b.sz + 1
  | .nt c => c.sz + 1
  | .both c d => c.sz + d.sz + 1
def Th.hh : Th → Nat
  | .ex e => e.h
  | .cd c => c.hh
def Th.ok (ys : List Str) : Th → Prop
  | .ex e => e.ok ys
  | .cd c => c.ok ys 5
def Th.At (H : Hp) : Th → V → Prop
  | .ex e, v => e.At H v
  | .cd c, v => c.At H v
def Th.words : Th → List Str
  | .ex e => e.words
  | .cd c => c.words
def Th.names : Th → List Str
  | .ex e => e.names
  | .cd c => c.names
def Th.sz : Th → Nat
  | .ex e => e.sz
  | .cd c => c.sz
theorem Th.At.mono {H H' : Hp} (t : Tups H H') {x : Th} {v : V} (h : x.At H v) : x.At H' v := by
  cases x with
  | ex e => exact Ex.At.mono t h
  | cd c => exact Cd.At.mono t h
theorem tx_len1 (w : Str) : (Tx [w]).length = w.length := rfl
theorem bl1_len : bl1.length = 1 := rfl
theorem Ex.len {ys : List Str} (g : Good ys) : ∀ e : Ex, e.ok ys → (Tx e.words).length ≤ 12 * e.sz
  | .num i, h => by
    have := dig_len h.1 h.2
    simp only [Ex.words, tx_len1, Ex.sz]
    omega
  | .box n, h => by
    have := g.ln n h
    simp only [Ex.words, tx_len1, Ex.sz]
    omega
  | .two k a b, h => by
    have h1 := Ex.len g a h.1
    have h2 := Ex.len g b h.2
    have e1 := (mark_facts _ brL_in).2.2
    have e2 := (mark_facts _ brR_in).2.2
    have e3 := (mark_facts _ (sgnE_in k)).2.2
    simp only [Ex.words, Ex.sz]
    rw [tx_cons _ (by simp), tx_snoc _ (by simp), tx_mid _ a.words_ne b.words_ne]
    simp only [sx_len, bl1_len, e1, e2, e3]
    omega
theorem Cd.len {ys : List Str} {n : Nat} (g : Good ys) : ∀ c : Cd, c.ok ys n → (Tx c.words).length ≤ 12 * c.sz
  | .cmp k a b, h => by
    have h1 := Ex.len g a h.1.1
    have h2 := Ex.len g b h.2.1
    have e3 := (mark_facts _ (sgnC_in k)).2.2
    simp only [Cd.words, Cd.sz]
    rw [tx_mid _ a.words_ne b.words_ne]
    simp only [sx_len, bl1_len, e3]
    omega
  | .nt c, h => by
    have h1 := Cd.len g c h
    have e1 : (Str.ofString "not").length = 3 := by decide +kernel
    simp only [Cd.words, Cd.sz]
    rw [tx_cons _ c.words_ne]
    simp only [sx_len, bl1_len, e1]
    omega
  | .both c d, h => by
    have h1 := Cd.len g c h.1
    have h2 := Cd.len g d h.2
    have e1 := (mark_facts _ brL_in).2.2
    have e2 := (mark_facts _ brR_in).2.2
    have e3 : (Str.ofString "and").length = 3 := by decide +kernel
    simp only [Cd.words, Cd.sz]
    rw [tx_cons _ (by simp), tx_snoc _ (by simp), tx_mid _ c.words_ne d.words_ne]
    simp only [sx_len, bl1_len, e1, e2, e3]
    omega
theorem Th.len {ys : List Str} (g : Good ys) (x : Th) (h : x.ok ys) : (Tx x.words).length ≤ 12 * x.sz := by
  cases x with
  | ex e => exact Ex.len g e h
  | cd c => exact Cd.len g c h
end L2
namespace L2
open PySem
abbrev markKv : List (Key × V) := [(Sum.inr (Str.ofString "plus"), .str (Str.ofString " + ")), (Sum.inr (Str.ofString "less"), .str (Str.ofString " - ")), (Sum.inr (Str.ofString "same"), .str (Str.ofString " = ")), (Sum.inr (Str.ofString "under"), .str (Str.ofString " < ")), (Sum.inr (Str.ofString "both"), .str (Str.ofString " and "))]
structure Two (H : Hp) (x : Th) (v : V) (m sg : Str) (x1 x2 : Th) (a : Addr) (v1 v2 : V) : Prop where
  v : v = .ref a
  at_ : H a = some (.tup [.str m, v1, v2])
  a1 : x1.At H v1
  a2 : x2.At H v2
  n1 : ¬ m = Str.ofString "number"
  n2 : ¬ m = Str.ofString "box"
  n3 : ¬ m = Str.ofString "not"
  names : x.names = x1.names ++ x2.names
  h1 : x1.hh < x.hh
  h2 : x2.hh < x.hh
  sz : x1.sz + x2.sz + 1 = x.sz
  ok : ∀ ys, x.ok ys → x1.ok ys ∧ x2.ok ys
  mv : valV (mergeK [] markKv) (Sum.inr m) = some (.str (bl1 ++ sg ++ bl1))
  sl : sg.length ≤ 3
  ws : (m ∈ [Str.ofString "same", Str.ofString "under"] ∧ x.words = x1.words ++ sg :: x2.words) ∨ (m ∉ [Str.ofString "same", Str.ofString "under"] ∧ x.words = Str.ofString "(" :: ((x1.words ++ sg :: x2.words) ++ [Str.ofString ")"]))
theorem Th.pick {ys : List Str} (g : Good ys) (x : Th) (h : x.ok ys) : L2.pick ys x.words = x.names := by
  cases x with
  | ex e => exact Ex.pick g e h
  | cd c => exact Cd.pick g c h
theorem Th.noblank {ys : List Str} (g : Good ys) (x : Th) (h : x.ok ys) : ∀ w ∈ x.words, 32 ∉ w.cps.toList := by
  cases x with
  | ex e => exact Ex.noblank g e h
  | cd c => exact Cd.noblank g c h
theorem Th.words_ne (x : Th) : x.words ≠ [] := by
  cases x with
  | ex e => exact e.words_ne
  | cd c => exact c.words_ne
theorem Th.split {ys : List Str} (g : Good ys) (x : Th) (h : x.ok ys) : Txt.split (Tx x.words) bl1 = x.words := split_join x.words_ne (x.noblank g h)
theorem i_dget {σ : St} {H : Hp} {Q : VK} {td ty : TE} (h : td σ H fun x H1 => ty σ H1 fun y H2 => ∃ a v, x = .ref a ∧ DGet H2 a y (some v) ∧ Q v H2) : tDGet td ty σ H Q := h
end L2
namespace L2
open PySem PySem.Spec PyProof.Rows
def fixN (y : Str) : Str := if y ∈ [Str.ofString "not", Str.ofString "and"] then Str.ofString "nota" else y
end L2
namespace L2
open PySem
inductive Tr where
  | non
  | int (i : Int)
  | str (s : Str)
  | tup (xs : List Tr)
  | lst (xs : List Tr)
mutual
def Tr.At (H : Hp) : Tr → V → List Addr → Prop
  | .non, v, fs => v = .non ∧ fs = []
  | .int i, v, fs => v = .int i ∧ fs = []
  | .str s, v, fs => v = .str s ∧ fs = []
  | .tup xs, v, fs => ∃ a vs, v = .ref a ∧ H a = some (.tup vs) ∧ Tr.Ats H xs vs fs
  | .lst xs, v, fs => ∃ a vs gs, v = .ref a ∧ H a = some (.lst vs) ∧ Tr.Ats H xs vs gs ∧ fs = a :: gs
def Tr.Ats (H : Hp) : List Tr → List V → List Addr → Prop
  | [], vs, fs => vs = [] ∧ fs = []
  | x :: xs, vs, fs => ∃ v ws f g, vs = v :: ws ∧ fs = f ++ g ∧ Tr.At H x v f ∧ Tr.Ats H xs ws g
end
def Keep (fs : List Addr) (H H' : Hp) : Prop := Tups H H' ∧ ∀ a ∈ fs, ∀ xs, H a = some (.lst xs) → H' a = some (.lst xs)
theorem Same.keep {H H' : Hp} (s : Same H H') (fs : List Addr) : Keep fs H H' := ⟨s.tups, fun a _ xs h => s a _ h⟩
theorem Keep.upd {fs : List Addr} {H : Hp} {l : Addr} {xs : List V} {o : HO} (h : H l = some (.lst xs)) (n : l ∉ fs) : Keep fs H (upd H l o) := ⟨Tups.upd h, fun a m ys e => by
  have hne : a ≠ l := fun z => n (z ▸ m)
  rw [upd_ne hne]
  exact e⟩
theorem Keep.trans {fs : List Addr} {H H1 H2 : Hp} (a : Keep fs H H1) (b : Keep fs H1 H2) : Keep fs H H2 := ⟨a.1.trans b.1, fun c m xs h => b.2 c m xs (a.2 c m xs h)⟩
theorem Keep.sub {fs gs : List Addr} {H H' : Hp} (k : Keep fs H H') (h : ∀ a ∈ gs, a ∈ fs) : Keep gs H H' := ⟨k.1, fun a m => k.2 a (h a m)⟩
mutual
theorem Tr.At.mono {H H' : Hp} : ∀ {x : Tr} {v : V} {fs : List Addr}, x.At H v fs → Keep fs H H' → x.At H' v fs
  | .non, _, _, h, _ => by simpa only [Tr.At] using h
  | .int _, _, _, h, _ => by simpa only [Tr.At] using h
  | .str _, _, _, h, _ => by simpa only [Tr.At] using h
  | .tup xs, v, fs, h, k => by
    simp only [Tr.At] at h ⊢
    obtain ⟨a, vs, e, g, r⟩ := h
    exact ⟨a, vs, e, k.1 _ _ g, Tr.Ats.mono r k⟩
  | .lst xs, v, fs, h, k => by
    simp only [Tr.At] at h ⊢
    obtain ⟨a, vs, gs, e, g, r, rfl⟩ := h
    exact ⟨a, vs, gs, e, k.2 _ (by simp) _ g, Tr.Ats.mono r (k.sub fun b m => by simp [m]), rfl⟩
theorem Tr.Ats.mono {H H' : Hp} : ∀ {xs : List Tr} {vs : List V} {fs : List Addr}, Tr.Ats H xs vs fs → Keep fs H H' → Tr.Ats H' xs vs fs
  | [], _, _, h, _ => by simpa only [Tr.Ats] using h
  | x :: xs, vs, fs, h, k => by
    simp only [Tr.Ats] at h ⊢
    obtain ⟨v, ws, f, g, e, rfl, a, b⟩ := h
    exact ⟨v, ws, f, g, e, rfl, Tr.At.mono a (k.sub fun c m => by simp [m]), Tr.Ats.mono b (k.sub fun c m => by simp [m])⟩
end
theorem Tr.Ats.snoc {H : Hp} : ∀ {xs : List Tr} {vs : List V} {fs gs : List Addr} {x : Tr} {v : V}, Tr.Ats H xs vs fs → x.At H v gs → Tr.Ats H (xs ++ [x]) (vs ++ [v]) (fs ++ gs)
  | [], vs, fs, gs, x, v, h, a => by
    simp only [Tr.Ats] at h
    obtain ⟨rfl, rfl⟩ := h
    simp only [List.nil_append, Tr.Ats]
    exact ⟨v, [], gs, [], rfl, by simp, a, rfl, rfl⟩
  | y :: xs, vs, fs, gs, x, v, h, a => by
    simp only [Tr.Ats] at h
    obtain ⟨w, ws, f, g, rfl, rfl, b, c⟩ := h
    simp only [List.cons_append, Tr.Ats]
    exact ⟨w, ws ++ [v], f, g ++ gs, rfl, by simp, b, c.snoc a⟩
theorem Tr.Ats.len {H : Hp} : ∀ {xs : List Tr} {vs : List V} {fs : List Addr}, Tr.Ats H xs vs fs → vs.length = xs.length
  | [], vs, fs, h => by
    simp only [Tr.Ats] at h
    obtain ⟨rfl, rfl⟩ := h
    rfl
  | y :: xs, vs, fs, h => by
    simp only [Tr.Ats] at h
    obtain ⟨w, ws, f, g, rfl, rfl, b, c⟩ := h
    simp [c.len]
theorem Tr.Ats.get {H : Hp} : ∀ {xs : List Tr} {vs : List V} {fs : List Addr}, Tr.Ats H xs vs fs → ∀ (i : Nat) (v : V), vs[i]? = some v → ∃ x f, xs[i]? = some x ∧ x.At H v f ∧ ∀ a ∈ f, a ∈ fs
  | [], vs, fs, h, i, v, e => by
    simp only [Tr.Ats] at h
    obtain ⟨rfl, rfl⟩ := h
    simp at e
  | y :: xs, vs, fs, h, i, v, e => by
    simp only [Tr.Ats] at h
    obtain ⟨w, ws, f, g, rfl, rfl, b, c⟩ := h
    cases i with
    | zero =>
      simp at e
      subst e
      exact ⟨y, f, rfl, b, fun a m => by simp [m]⟩
    | succ i =>
      obtain ⟨x, f', h1, h2, h3⟩ := c.get i v (by simpa using e)
      exact ⟨x, f', by simpa using h1, h2, fun a m => by simp [h3 a m]⟩
end L2
namespace L2
open PySem PySem.Spec PyProof.Rows
mutual
def Tr.h : Tr → Nat
  | .non => 0
  | .int _ => 0
  | .str _ => 0
  | .tup xs => Tr.hs xs + 1
  | .lst xs => Tr.hs xs + 1
def Tr.hs : List Tr → Nat
  | [] => 0
  | x :: xs => max x.h (Tr.hs xs)
end
theorem all_tt (n : Nat) : ((List.range n).all fun _ => true) = true := by simp
theorem in1_units (A : Around) : A.in1.units = A.units + 1 := rfl
section
variable {X : Cx} {pins : List (Addr × Obj)} {σ : St} {H : Hp} {s : Shared}
mutual
theorem Tr.eqAt (I : Inv X pins σ H s) : ∀ {t : Tr} {A : Around} {v w : V} {fs gs : List Addr} {u z : Value}, t.At H v fs → t.At H w gs → RelV v u → RelV w z → A.units + t.h < cLine → SeqAt.EqAt A s u z true
  | .non, A, v, w, fs, gs, u, z, h1, h2, r1, r2, hu => by
    simp only [Tr.At] at h1 h2
    obtain ⟨rfl, -⟩ := h1
    obtain ⟨rfl, -⟩ := h2
    cases r1
    cases r2
    exact SeqAt.EqAt.same _
  | .int i, A, v, w, fs, gs, u, z, h1, h2, r1, r2, hu => by
    simp only [Tr.At] at h1 h2
    obtain ⟨rfl, -⟩ := h1
    obtain ⟨rfl, -⟩ := h2
    obtain ⟨t1, rfl⟩ := r1
    obtain ⟨t2, rfl⟩ := r2
    have := SeqAt.EqAt.int_int (A := A) (s := s) i t1 i t2
    simpa using this
  | .str i, A, v, w, fs, gs, u, z, h1, h2, r1, r2, hu => by
    simp only [Tr.At] at h1 h2
    obtain ⟨rfl, -⟩ := h1
    obtain ⟨rfl, -⟩ := h2
    obtain ⟨t1, rfl⟩ := r1
    obtain ⟨t2, rfl⟩ := r2
    have := SeqAt.EqAt.str_str (A := A) (s := s) i t1 i t2
    simpa using this
  | .tup xs, A, v, w, fs, gs, u, z, h1, h2, r1, r2, hu => by
    simp only [Tr.At] at h1 h2
    obtain ⟨a, vs, rfl, e1, c1⟩ := h1
    obtain ⟨b, ws, rfl, e2, c2⟩ := h2
    cases r1
    cases r2
    by_cases hab : a = b
    · subst hab
      exact SeqAt.EqAt.same _
    refine SeqAt.EqAt.of_refs hab ?_
    obtain ⟨is1, q1, p1, _⟩ := I.tuple (SqT.of e1)
    obtain ⟨is2, q2, p2, _⟩ := I.tuple (SqT.of e2)
    simp only [Tr.h] at hu
    have hl : is1.length = is2.length := by rw [← q1.length, ← q2.length, c1.len, c2.len]
    have := SeqAt.RcAt.tuples (A := A) (s := s) (e := fun _ => true) p1 p2 (by omega) (fun j h1 h2 => by
      have := Tr.eqAts I (A := A.in1) c1 c2 q1 q2 (by rw [in1_units]; omega) j (by simpa using h1) (by simpa using h2)
      simpa using this)
    simpa [hl, all_tt] using this
  | .lst xs, A, v, w, fs, gs, u, z, h1, h2, r1, r2, hu => by
    simp only [Tr.At] at h1 h2
    obtain ⟨a, vs, _, rfl, e1, c1, _⟩ := h1
    obtain ⟨b, ws, _, rfl, e2, c2, _⟩ := h2
    cases r1
    cases r2
    by_cases hab : a = b
    · subst hab
      exact SeqAt.EqAt.same _
    refine SeqAt.EqAt.of_refs hab ?_
    obtain ⟨is1, q1, p1, _⟩ := I.list (SqL.of e1)
    obtain ⟨is2, q2, p2, _⟩ := I.list (SqL.of e2)
    simp only [Tr.h] at hu
    have hl : is1.length = is2.length := by rw [← q1.length, ← q2.length, c1.len, c2.len]
    have := SeqAt.RcAt.lists (A := A) (s := s) (e := fun _ => true) p1.isList p2.isList (by simpa using hl) (by omega) (fun j h1 h2 => by
      have := Tr.eqAts I (A := A.in1) c1 c2 q1 q2 (by rw [in1_units]; omega) j (by simpa using h1) (by simpa using h2)
      simpa using this)
    simpa [all_tt] using this
theorem Tr.eqAts (I : Inv X pins σ H s) : ∀ {ts : List Tr} {A : Around} {vs ws : List V} {fs gs : List Addr} {us zs : List Value}, Tr.Ats H ts vs fs → Tr.Ats H ts ws gs → Vals vs us → Vals ws zs → A.units + Tr.hs ts < cLine →
    ∀ (j : Nat) (h1 : j < us.length) (h2 : j < zs.length), SeqAt.EqAt A s us[j] zs[j] true
  | [], A, vs, ws, fs, gs, us, zs, c1, c2, q1, q2, hu, j, h1, h2 => by
    simp only [Tr.Ats] at c1
    obtain ⟨rfl, -⟩ := c1
    cases q1
    exact absurd h1 (by simp)
  | t :: ts, A, vs, ws, fs, gs, us, zs, c1, c2, q1, q2, hu, j, h1, h2 => by
    simp only [Tr.Ats] at c1 c2
    obtain ⟨v, vs, f, g, rfl, rfl, a1, b1⟩ := c1
    obtain ⟨w, ws, f', g', rfl, rfl, a2, b2⟩ := c2
    cases q1 with
    | cons r1 q1 =>
    cases q2 with
    | cons r2 q2 =>
    simp only [Tr.hs] at hu
    cases j with
    | zero => exact Tr.eqAt I a1 a2 r1 r2 (by omega)
    | succ j => exact Tr.eqAts I b1 b2 q1 q2 (by omega) j (by simpa using h1) (by simpa using h2)
end
def rEqT : R2 := fun x y H Q => ∃ t fs gs, (Tr.tup t).At H x fs ∧ (Tr.tup t).At H y gs ∧ Tr.hs t ≤ 60 ∧ Q (.bl true) H
end
end L2
namespace L2
open PySem PySem.Spec PyProof.Rows
theorem isList_but {it l : Addr} {items : Array Value} {h h' : Heap} (hl : h.IsList l items) (e : Heap.ExtBut it h h') (hne : l ≠ it) : h'.IsList l items := by
  obtain ⟨o, ho, r⟩ := hl
  exact ⟨o, e l o hne ho, r⟩
section
variable {prog : Program} {w : World} {A : Around} {E : Value → Shared → Prop}
theorem draw_list {it l : Addr} {items : Array Value} (hne : l ≠ it) : ∀ (n i : Nat) (s : Shared) (Q : List Value → Shared → Prop), s.heap.IsListIter it l i → s.heap.IsList l items → i + n ≤ items.size →
    (∀ h', h'.IsListIter it l (i + n) → Heap.SameBut it s.heap h' → Q ((items.toList.drop i).take n) { s with heap := h' }) → wpAny (model prog w) A (draw (.ref it) n) Q E s
  | 0, i, s, Q, hit, _, _, hQ => by
    show wpAny _ _ (pure []) Q E s
    exact wpAny_pure (by simpa using hQ s.heap hit (Heap.SameBut.refl ..))
  | n + 1, i, s, Q, hit, ht, hle, hQ => by
    have hlt : i < items.size := by omega
    show wpAny _ _ (pyNext (.ref it) >>= _) Q E s
    refine wpAny_bind (wpAny_pyNext_list_item hit ht (x := items[i]) (by simp [hlt]) fun h1 hit1 hs1 => ?_)
    refine wpAny_bind (wpAny_holding (draw_list hne n (i + 1) _ _ hit1 (isList_but ht hs1.extBut hne) (by omega) fun h2 hit2 hs2 => wpAny_pure ?_))
    have hd : items.toList.drop i = items[i] :: items.toList.drop (i + 1) := by simp [List.drop_eq_getElem_cons, hlt]
    have := hQ h2 (by rw [show i + (n + 1) = i + 1 + n by omega]; exact hit2) (hs1.trans hs2)
    rw [hd, List.take_succ_cons] at this
    exact this
theorem unpackItems_list {s : Shared} {l : Addr} {items : Array Value} {Q : List Value → Shared → Prop} (hh : A.handled = none) (ht : s.heap.IsList l items)
    (hQ : ∀ h', Heap.ExtBut s.heap.objs.size s.heap h' → Q items.toList { s with heap := h' }) : wpAny (model prog w) A (unpackItems (.ref l) items.size none) Q E s := by
  have hlt : l ≠ s.heap.objs.size := by obtain ⟨o, ho, _⟩ := ht; exact Nat.ne_of_lt (Heap.lt_size ho)
  unfold unpackItems
  refine wpAny_bind ?_
  unfold notIterableAtAll
  refine wpAny_bind (wpAny_specialOf ht.typeIs slot_list_iter.lookup ?_)
  refine wpAny_pure ?_
  simp only [Bool.false_eq_true, if_false]
  refine wpAny_bind (wpAny_holding (wpAny_pyIter_list ht ?_))
  have hp : (s.heap.push { cls := .type "list_iterator", data := .fields #[.ref l, .int 0 0] }).IsList l items := by
    obtain ⟨o, ho, r⟩ := ht
    exact ⟨o, Heap.get?_push_of_some _ ho, r⟩
  refine wpAny_bind (wpAny_holding (draw_list hlt items.size 0 _ _ ⟨_, Heap.get?_push_size _ rfl, rfl, rfl⟩ hp (by omega) fun h1 hit1 hs1 => ?_))
  have hall : List.take items.size (List.drop 0 items.toList) = items.toList := by
    rw [List.drop_zero]; exact List.take_of_length_le (by simp)
  rw [hall, if_neg (by simp)]
  refine wpAny_bind (wpAny_holding (wpAny_pyNext_list_end hh hit1 (isList_but hp hs1.extBut hlt) (by simp) fun h2 he2 => ?_))
  simp only [Option.isSome_none, Bool.false_eq_true, if_false]
  exact wpAny_pure (hQ h2 fun b o hb e => he2 b o hb (hs1.extBut b o hb (Heap.get?_push_of_some _ e)))
end
section
variable {X : Cx} {pos : Pos}
def gLst (K : PySem.W.Frag) (n : Nat) (t : TGs) : TG := fun v σ H Q => ∃ a xs, v = .ref a ∧ SqL K H a xs ∧ xs.length = n ∧ t xs σ H Q
theorem kpg_lst (K : PySem.W.Frag) {es : List Expr} {k : Nat} {t : TGs} {n : Nat} (hc : X.calm = true) (h : PGs X es t) (hn : (assignEach es X.env).length = n := by rfl) (hst : (assignEach es X.env).findIdx? (·.1) = none := by rfl) (hK : X.K = K := by rfl) :
    PG X (.Tuple es k pos) (gLst K n t) := by
  subst hK
  intro pins s σ H v u Q I r hw
  obtain ⟨a, xs, e1, hq, hl, hw⟩ := hw
  subst e1
  cases r
  obtain ⟨its, rv, ht, hz⟩ := I.list hq
  rw [PySem.arm_assign_Tuple]
  refine wpAny_bind (wpAny_standAt ?_)
  unfold unpack
  rw [hst, show (assignEach es X.env).length = its.toArray.size by simp [hn, ← hl, rv.length]]
  refine wpAny_bind (wpAny_holding (unpackItems_list (I.ok.hd hc) ht.isList fun h' hx => ?_))
  have I1 : Inv X pins σ H { s with heap := h' } := I.kept (t' := s.toks) fun b o e => hx b o (Nat.ne_of_lt (Heap.lt_size e)) e
  exact h pins _ σ H xs _ Q I1 (by simpa using rv) hw
theorem i_asgL {K : PySem.W.Frag} {σ : St} {H : Hp} {QS : St → Hp → Prop} {n : Nat} {ts : TGs} {a : Addr} {xs : List V} (h1 : SqL K H a xs) (h2 : xs.length = n) (h : ts xs σ H QS) : gLst K n ts (.ref a) σ H QS := ⟨a, xs, rfl, h1, h2, h⟩
end
end L2
namespace L2
open PySem PySem.Spec PyProof.Rows
structure DicK (K : PySem.W.Frag) (P : Params) (a : Addr) (f : List (Str × Str)) : Prop where
  lk : ∃ es n, K.lookup a = some ⟨.type "dict", none, .dict es n, #[]⟩ ∧ PySem.W.KeysLit P es.toList
  at_ : ∀ k z, (k, z) ∈ f → ∃ t, PySem.W.nsIn K a k = some (some (.str z t))
def rIxD (K : PySem.W.Frag) (P : Params) : R2 := fun x y H Q => ∃ a f k z, x = .ref a ∧ y = .str k ∧ DicK K P a f ∧ (k, z) ∈ f ∧ Q (.str z) H
inductive DicAt (K : PySem.W.Frag) (a : Addr) : List (Str × Str) → Prop
  | nil : DicAt K a []
  | cons {k z : Str} {v : Value} {r : List (Str × Str)} : PySem.W.nsIn K a k = some (some v) → RelV (.str z) v → DicAt K a r → DicAt K a ((k, z) :: r)
theorem DicAt.all {K : PySem.W.Frag} {a : Addr} {f : List (Str × Str)} (d : DicAt K a f) : ∀ k z, (k, z) ∈ f → ∃ t, PySem.W.nsIn K a k = some (some (.str z t)) := by
  induction d with
  | nil => intro k z m; exact nomatch m
  | cons e r _ ih =>
    intro k z m
    rcases List.mem_cons.mp m with h | h
    · cases h
      obtain ⟨t, rfl⟩ := r
      exact ⟨t, e⟩
    · exact ih k z h
def iSeq (K : PySem.W.Frag) (te : TE) : TI := fun σ H R => te σ H fun x H1 => ∃ a, x = .ref a ∧ (((∃ xs, SqL K H1 a xs) ∧ R (Itl K a) H1) ∨ ((∃ xs, SqT K H1 a xs) ∧ R (Itt K a) H1))
theorem i_iSeq {K : PySem.W.Frag} {σ : St} {H : Hp} {te : TE} {R : It → Hp → Prop} (h : te σ H fun x H1 => ∃ a, x = .ref a ∧ (((∃ xs, SqL K H1 a xs) ∧ R (Itl K a) H1) ∨ ((∃ xs, SqT K H1 a xs) ∧ R (Itt K a) H1))) : iSeq K te σ H R := h
inductive Pt where
  | s (z : Str)
  | i (n : Int)
def Pt.v : Pt → V
  | .s z => .str z
  | .i n => .int n
def Pt.tx : Pt → Str
  | .s z => z
  | .i n => Str.ofString (toString n)
def rowT (ps : List Pt) : Str := Tx (ps.map Pt.tx)
theorem i_joinC {t : TE} {r : List TE} {out : Str} {σ : St} {H : Hp} {Q : VK} (h : t σ H fun x H1 => ∃ y, x = .str y ∧ (out ++ y).length ≤ sizeLine ∧ tJoin r (out ++ y) σ H1 Q) : tJoin (t :: r) out σ H Q := h
theorem i_fmt {te : TE} {σ : St} {H : Hp} {Q : VK} (h : te σ H fun x H1 => (∃ z, x = .str z ∧ z.length ≤ sizeLine ∧ Q (.str z) H1) ∨ ∃ i : Int, x = .int i ∧ i.natAbs.log2 < 1920 ∧ Q (.str (toString i)) H1) : tFmt te σ H Q := h
theorem i_fmS {z : Str} {A : Str → Prop} {B : Int → Prop} (h : A z) : (∃ y, V.str z = .str y ∧ A y) ∨ ∃ i : Int, V.str z = .int i ∧ B i := .inl ⟨z, rfl, h⟩
theorem i_fmI {i : Int} {A : Str → Prop} {B : Int → Prop} (h : B i) : (∃ y, V.int i = .str y ∧ A y) ∨ ∃ j : Int, V.int i = .int j ∧ B j := .inr ⟨i, rfl, h⟩
end L2
namespace L2
open PySem
def Pt.tr : Pt → Tr
  | .s z => .str z
  | .i n => .int n
def Ex.tr : Ex → Tr
  | .num i => .tup [.str "number", .int i]
  | .box n => .tup [.str "box", .str n]
  | .two k a b => .tup [.str (markS k), a.tr, b.tr]
def Cd.tr : Cd → Tr
  | .cmp k a b => .tup [.str (markC k), a.tr, b.tr]
  | .nt c => .tup [.str "not", c.tr]
  | .both c d => .tup [.str "both", c.tr, d.tr]
mutual
inductive Stm where
  | plain (ps : List Pt)
  | put (n : Str) (e : Ex)
  | loop (b : List Stm)
  | wait (n : Int) (bs : List Br)
  | test (c : Cd) (a b : List Stm)
inductive Br where
  | mk (p : List Pt) (b : List Stm)
end
def bodyT (x : Tr) : Tr := x
mutual
def Stm.tr : Stm → Tr
  | .plain ps => .tup (ps.map Pt.tr)
  | .put n e => .tup [.str "put", .str n, e.tr]
  | .loop b => .tup [.str "loop", .lst (Stm.trs b)]
  | .wait n bs => .tup [.str "wait", .int n, .lst (Br.trs bs)]
  | .test c a b => .tup [.str "test", c.tr, .lst (Stm.trs a), .lst (Stm.trs b)]
def Br.tr : Br → Tr
  | .mk p b => .tup [.tup (p.map Pt.tr), .lst (Stm.trs b)]
def Stm.trs : List Stm → List Tr
  | [] => []
  | s :: r => s.tr :: Stm.trs r
def Br.trs : List Br → List Tr
  | [] => []
  | s :: r => s.tr :: Br.trs r
end
abbrev blk : Str := Str.ofString "  "
def inn (ys : List Str) : List Str := ys.map fun y => blk ++ y
def blockR (head : Str) (ys : List Str) : List Str := head :: inn ys ++ [Str.ofString "end"]
def elseR : List Str → List Str → List Str
  | [], _ => []
  | _ :: _, r => Str.ofString "else" :: r
mutual
def Stm.rows : Stm → List Str
  | .plain ps => [Tx (ps.map Pt.tx)]
  | .put n e => [Tx [Str.ofString "put", n, Tx e.words]]
  | .loop b => blockR (Str.ofString "loop") (Stm.rowsL b)
  | .wait n bs => blockR (Str.ofString "wait " ++ Str.ofString (toString n)) (Br.rowsL bs)
  | .test c a b => (Str.ofString "if " ++ Tx c.words) :: inn (Stm.rowsL a) ++ (if b.isEmpty then [] else Str.ofString "else" :: inn (Stm.rowsL b)) ++ [Str.ofString "end"]
def Br.rows : Br → List Str
  | .mk p b => (Str.ofString "on " ++ Tx (p.map Pt.tx)) :: inn (Stm.rowsL b)
def Stm.rowsL : List Stm → List Str
  | [] => []
  | s :: r => s.rows ++ Stm.rowsL r
def Br.rowsL : List Br → List Str
  | [] => []
  | s :: r => s.rows ++ Br.rowsL r
end
def Pt.ok : Pt → Prop
  | .s z => z.length ≤ 8
  | .i n => 0 ≤ n ∧ n < 10
mutual
def Stm.ok (ys : List Str) : Nat → Stm → Prop
  | _, .plain ps => ps.length ≤ 3 ∧ (∀ p ∈ ps, p.ok) ∧ ∃ k r, ps = .s k :: r ∧ k ∉ [Str.ofString "test", Str.ofString "wait", Str.ofString "loop", Str.ofString "put"]
  | _, .put n e => n ∈ ys ∧ e.ok ys ∧ e.h ≤ 5
  | 0, .loop b => False
  | d + 1, .loop b => Stm.oks ys d b
  | 0, .wait n bs => False
  | d + 1, .wait n bs => (0 ≤ n ∧ n < 10) ∧ Br.oks ys d bs
  | 0, .test c a b => False
  | d + 1, .test c a b => c.ok ys 5 ∧ c.h ≤ 3 ∧ Stm.oks ys d a ∧ Stm.oks ys d b
def Br.ok (ys : List Str) : Nat → Br → Prop
  | d, .mk p b => p.length ≤ 3 ∧ (∀ x ∈ p, x.ok) ∧ Stm.oks ys d b
def Stm.oks (ys : List Str) : Nat → List Stm → Prop
  | _, [] => True
  | d, s :: r => s.ok ys d ∧ Stm.oks ys d r
def Br.oks (ys : List Str) : Nat → List Br → Prop
  | _, [] => True
  | d, s :: r => s.ok ys d ∧ Br.oks ys d r
end
end L2
namespace L2
open PySem
theorem Pt.at {H : Hp} : ∀ {p : Pt} {v : V} {fs : List Addr}, p.tr.At H v fs → v = p.v
  | .s _, _, _, h => by simp only [Pt.tr, Tr.At] at h; exact h.1
  | .i _, _, _, h => by simp only [Pt.tr, Tr.At] at h; exact h.1
theorem Pt.parts : ∀ {ps : List Pt}, (∀ p ∈ ps, p.ok) → PartsS (ps.map Pt.v) (ps.map Pt.tx)
  | [], _ => .nil
  | p :: ps, h => by
    refine .cons ?_ (Pt.parts fun q m => h q (List.mem_cons_of_mem _ m))
    have := h p (by simp)
    cases p with
    | s z => exact .inr rfl
    | i n =>
      have h' : 0 ≤ n ∧ n < 10 := this
      exact .inl ⟨n, rfl, by omega, rfl⟩
theorem Pt.len {p : Pt} (h : p.ok) : p.tx.length ≤ 8 := by
  cases p with
  | s z => exact h
  | i n =>
    have := dig_len h.1 h.2
    simp only [Pt.tx]
    omega
theorem Pt.sum : ∀ {ps : List Pt}, (∀ p ∈ ps, p.ok) → ((ps.map Pt.tx).map (·.length)).sum ≤ 8 * ps.length
  | [], _ => by simp
  | p :: ps, h => by
    have h1 := Pt.len (h p (by simp))
    have h2 := Pt.sum (ps := ps) fun q m => h q (List.mem_cons_of_mem _ m)
    simp only [List.map_cons, List.sum_cons, List.length_cons]
    omega
theorem Stm.rowsL_app : ∀ (a b : List Stm), Stm.rowsL (a ++ b) = Stm.rowsL a ++ Stm.rowsL b
  | [], b => by simp [Stm.rowsL]
  | x :: a, b => by simp [Stm.rowsL, Stm.rowsL_app a b]
theorem Br.rowsL_app : ∀ (a b : List Br), Br.rowsL (a ++ b) = Br.rowsL a ++ Br.rowsL b
  | [], b => by simp [Br.rowsL]
  | x :: a, b => by simp [Br.rowsL, Br.rowsL_app a b]
theorem Stm.rowsL_snoc {b : List Stm} {i : Nat} {s : Stm} (e : b[i]? = some s) : Stm.rowsL (b.take (i + 1)) = Stm.rowsL (b.take i) ++ s.rows := by
  rw [List.take_add_one, e, Stm.rowsL_app]
  simp [Stm.rowsL]
theorem Br.rowsL_snoc {b : List Br} {i : Nat} {s : Br} (e : b[i]? = some s) : Br.rowsL (b.take (i + 1)) = Br.rowsL (b.take i) ++ s.rows := by
  rw [List.take_add_one, e, Br.rowsL_app]
  simp [Br.rowsL]
theorem Stm.trs_eq : ∀ (b : List Stm), Stm.trs b = b.map Stm.tr
  | [] => by simp [Stm.trs]
  | x :: b => by simp [Stm.trs, Stm.trs_eq b]
theorem Br.trs_eq : ∀ (b : List Br), Br.trs b = b.map Br.tr
  | [] => by simp [Br.trs]
  | x :: b => by simp [Br.trs, Br.trs_eq b]
def Fit (ys : List Str) : Prop := ys.length ≤ 50000 ∧ ∀ y ∈ ys, y.length ≤ 50000
theorem Fit.app {a b : List Str} (h : Fit (a ++ b)) : Fit a ∧ Fit b := by
  obtain ⟨h1, h2⟩ := h
  rw [List.length_append] at h1
  exact ⟨⟨by omega, fun y m => h2 y (by simp [m])⟩, ⟨by omega, fun y m => h2 y (by simp [m])⟩⟩
theorem Fit.cons {x : Str} {b : List Str} (h : Fit (x :: b)) : x.length ≤ 50000 ∧ Fit b := ⟨h.2 x (by simp), ⟨by have := h.1; simp only [List.length_cons] at this; omega, fun y m => h.2 y (by simp [m])⟩⟩
theorem Fit.inn {b : List Str} (h : Fit (inn b)) : Fit b := by
  refine ⟨by have := h.1; simpa [L2.inn] using this, fun y m => ?_⟩
  have := h.2 (blk ++ y) (List.mem_map.mpr ⟨y, m, rfl⟩)
  rw [sx_len] at this
  omega
theorem Fit.block {head : Str} {b : List Str} (h : Fit (blockR head b)) : head.length ≤ 50000 ∧ Fit b := by
  unfold blockR at h
  rw [List.cons_append] at h
  exact ⟨h.cons.1, h.cons.2.app.1.inn⟩
theorem Fit.take {b : List Stm} {i : Nat} {s : Stm} (h : Fit (Stm.rowsL b)) (e : b[i]? = some s) : Fit s.rows ∧ (Stm.rowsL (b.take i)).length + s.rows.length ≤ 50000 := by
  have e2 : Stm.rowsL b = Stm.rowsL (b.take (i + 1)) ++ Stm.rowsL (b.drop (i + 1)) := by rw [← Stm.rowsL_app, List.take_append_drop]
  rw [e2, Stm.rowsL_snoc e] at h
  have := h.app.1
  refine ⟨this.app.2, ?_⟩
  have := this.1
  rwa [List.length_append] at this
end L2
namespace L2
open PySem
section
variable {H : Hp} {v : V} {fs : List Addr}
end
end L2
namespace L2
open PySem
def boxT (x : Str × Int) : Tr := .tup [.str x.1, .int x.2]
def talkT (x : Str × List Stm) : Tr := .tup [.str x.1, .lst (Stm.trs x.2)]
def scrT (bs : List (Str × Int)) (ts : List (Str × List Stm)) : Tr := .tup [.lst (bs.map boxT), .lst (ts.map talkT)]
def boxR (x : Str × Int) : Str := Str.ofString "box " ++ x.1 ++ Str.ofString " " ++ Str.ofString (toString x.2)
def talkR (x : Str × List Stm) : List Str := blockR (Str.ofString "talk " ++ x.1) (Stm.rowsL x.2)
def talksR (ts : List (Str × List Stm)) : List Str := ts.flatMap talkR
def scrR (bs : List (Str × Int)) (ts : List (Str × List Stm)) : List Str := bs.map boxR ++ talksR ts
section
variable {H : Hp} {v : V} {fs : List Addr}
end
theorem talksR_snoc {b : List (Str × List Stm)} {i : Nat} {s : Str × List Stm} (e : b[i]? = some s) : talksR (b.take (i + 1)) = talksR (b.take i) ++ talkR s := by
  unfold talksR
  rw [List.take_add_one, e]
  simp
theorem Fit.talk {b : List (Str × List Stm)} {i : Nat} {s : Str × List Stm} (h : Fit (talksR b)) (e : b[i]? = some s) : Fit (talkR s) ∧ (talksR (b.take i)).length + (talkR s).length ≤ 50000 := by
  have e2 : talksR b = talksR (b.take (i + 1)) ++ talksR (b.drop (i + 1)) := by
    unfold talksR
    rw [← List.flatMap_append, List.take_append_drop]
  rw [e2, talksR_snoc e] at h
  have := h.app.1
  refine ⟨this.app.2, ?_⟩
  have := this.1
  rwa [List.length_append] at this
end L2
namespace L2
open PySem PySem.Spec PyProof.Rows
section
variable {X : Cx}
def rNeT : R2 := fun x y H Q => ∃ t fs gs, (Tr.lst t).At H x fs ∧ (Tr.lst t).At H y gs ∧ Tr.hs t ≤ 60 ∧ Q (.bl false) H
end
inductive Prs (H : Hp) : List V → List Int → Prop
  | nil : Prs H [] []
  | cons {p : Addr} {u : V} {n : Int} {vs : List V} {ns : List Int} : H p = some (.tup [u, .int n]) → Prs H vs ns → Prs H (.ref p :: vs) (n :: ns)
theorem Prs.mono {H H' : Hp} (t : Tups H H') {vs : List V} {ns : List Int} (h : Prs H vs ns) : Prs H' vs ns := by
  induction h with
  | nil => exact .nil
  | cons e _ ih => exact .cons (t _ _ e) ih
theorem Prs.len {H : Hp} {vs : List V} {ns : List Int} (h : Prs H vs ns) : vs.length = ns.length := by
  induction h with
  | nil => rfl
  | cons e _ ih => simp [ih]
theorem Prs.snoc {H : Hp} {vs : List V} {ns : List Int} {p : Addr} {u : V} {n : Int} (h : Prs H vs ns) (e : H p = some (.tup [u, .int n])) : Prs H (vs ++ [.ref p]) (ns ++ [n]) := by
  induction h with
  | nil => exact .cons e .nil
  | cons e' _ ih => exact .cons e' ih
theorem Prs.get {H : Hp} {vs : List V} {ns : List Int} (h : Prs H vs ns) : ∀ (i : Nat) (x : V), vs[i]? = some x → ∃ p u n, x = .ref p ∧ H p = some (.tup [u, .int n]) ∧ ns[i]? = some n := by
  induction h with
  | nil => intro i x e; simp at e
  | cons e' _ ih =>
    intro i x e
    cases i with
    | zero =>
      simp at e
      exact ⟨_, _, _, e.symm, e', rfl⟩
    | succ i => exact ih i x (by simpa using e)
end L2
namespace L2
def LedN (ws : List (Option Nat)) : Nat → Nat → Nat → Prop
  | 0, i, j => i = j ∧ ws[i]? = some none
  | m + 1, i, j => ∃ k, ws[i]? = some (some k) ∧ LedN ws m k j
def keptP (ws : List (Option Nat)) (n : Nat) : List Nat := (List.range n).filter fun i => decide (ws[i]? = some none)
def kept (ws : List (Option Nat)) : List Nat := keptP ws ws.length
structure Ups (ws : List (Option Nat)) : Prop where
  up : ∀ i k, ws[i]? = some (some k) → i < k ∧ k < ws.length
structure Wout (ws : List (Option Nat)) (sf : List Nat) : Prop where
  len : sf.length = ws.length
  at_ : ∀ i k, sf[i]? = some k → ∃ m j, LedN ws m i j ∧ (kept ws)[k]? = some j
end L2
namespace L2
open PySem
section
variable {prog : Program} {w : World} {K : Type} [DecidableEq K] {knd : KeyKind prog w K} {A : Around} {E : Value → Shared → Prop} {s : Shared}
end
end L2
namespace L2
open PySem
section
variable {prog : Program} {w : World} {K : Type} [DecidableEq K] {knd : KeyKind prog w K} {A : Around} {E : Value → Shared → Prop} {s : Shared}
def PairsAt (knd : KeyKind prog w K) (h : Heap) (items : Array Value) (ps : List (K × Value)) (no : List Addr) : Prop :=
  ps.length = items.size ∧ ∀ (j : Nat) (x : Value), items[j]? = some x → ∃ T k key v, x = .ref T ∧ T ∉ no ∧ h.IsTuple T #[key, v] ∧ knd.is k key = true ∧ ps[j]? = some (k, v)
theorem PairsAt.mono {h h' : Heap} {items : Array Value} {ps : List (K × Value)} {no : List Addr} (p : PairsAt knd h items ps no) (k : ∀ b o, b ∉ no → h.get? b = some o → h'.get? b = some o) : PairsAt knd h' items ps no :=
  ⟨p.1, fun j x e => by
    obtain ⟨T, k1, key, v, h1, h2, ⟨o, h3, h3'⟩, h4, h5⟩ := p.2 j x e
    exact ⟨T, k1, key, v, h1, h2, ⟨o, k T o h2 h3, h3'⟩, h4, h5⟩⟩
end
end L2
namespace L2
open PySem PySem.Spec PyProof.Rows
section
variable {X : Cx} {pins : List (Addr × Obj)} {σ : St} {H : Hp} {s : Shared}
theorem Inv.turnedL {t' : Nat} {h' : Heap} {ch : List Addr} (I : Inv X pins σ H s) (k : ∀ b o, b ∉ ch → s.heap.get? b = some o → h'.get? b = some o) (hf : ∀ b ∈ ch, FpOk X pins H b) : Inv X pins σ H { s with heap := h', toks := t' } := by
  have nit : ∀ b u, H b = some u → b ∉ ch := fun b u e z => by rw [(hf b z).1] at e; cases e
  refine I.step (g' := s.gens) (d' := s.drawn) (ch := ch) (fun b hb => ⟨(hf b hb).2.2.2.1, (hf b hb).2.1, (hf b hb).2.2.2.2.1, (hf b hb).2.2.2.2.2⟩) (fun b o _ _ hc e _ => k b o hc e) (fun b o _ _ hc e _ => ⟨o.slots, k b o hc e⟩) (fun _ _ _ _ n => n)
    (fun b o hc e => ⟨o, k b o hc e⟩) (fun _ _ e => e) (fun _ _ _ e => e) (fun b ps e => ⟨#[], by rw [e]; simp⟩) (fun m hm => ?_) (fun b u e => ?_) I.bare
  · obtain ⟨o, es, ep, ho, r⟩ := hm
    exact ⟨o, es, ep, k _ o (fun z => (hf _ z).2.1 rfl) ho, r⟩
  · refine (I.hok b u e).stay (fun c v hc q => k c v ?_ q) (fun _ q => q) fun _ _ q => q
    rcases hc with z | z
    · rw [z]; exact nit b u e
    · exact nit c _ z
end
def Ite (K : PySem.W.Frag) (a : Addr) : It :=
  ⟨fun i H => ∃ xs x, SqL K H a xs ∧ xs[i]? = some x, fun i H v H' => ∃ p y, v = .ref p ∧ H p = none ∧ Same H H' ∧ H' p = some (.tup [.int (i : Nat), y]) ∧ ∀ xs, SqL K H a xs → xs[i]? = some y, fun i H => ∃ xs, SqL K H a xs ∧ xs.length ≤ i⟩
theorem turn_enum {P : Program} {w : World} {K : PySem.W.Frag} {elts : List Expr} {x1 : Nat} {pos : Pos} (a e it : Addr) (hne : e ≠ it) :
    Turn P w K (.Tuple elts x1 pos) (Ite K a) [e, it] e (fun i h => (∃ old, IsEnum h e it (i : Nat) old) ∧ h.IsListIter it a i) where
  mem := by simp
  obj := fun i h st b hb => by
    obtain ⟨⟨old, he⟩, o, e2, c, d⟩ := st
    rcases (by simpa using hb : b = e ∨ b = it) with rfl | rfl
    · exact ⟨_, he, fun v z => by cases z⟩
    · exact ⟨o, e2, fun v z => by rw [d] at z; cases z⟩
  keep := fun i h h' st k => ⟨let ⟨old, he⟩ := st.1; ⟨old, k e (by simp) _ he⟩, st.2.at fun o x => k it (by simp) o x⟩
  item := by
    intro X hP hw hK hc i pins s σ H E I hf st hg
    subst hP hw hK
    obtain ⟨xs, x, hq, hx⟩ := hg
    obtain ⟨its, rv, p, hz⟩ := I.list hq
    obtain ⟨u, hu, ru⟩ := rv.get hx
    obtain ⟨⟨old, he⟩, hit⟩ := st
    have helt : e < s.heap.objs.size := Heap.lt_size he
    have hilt : it < s.heap.objs.size := by obtain ⟨_, q, _⟩ := hit; exact Heap.lt_size q
    refine wpAny_pyNext_enum_item he hit p.isList (x := u) (by simpa using hu) hne fun h' ho hit' hT hsz hk => ?_
    have fr : H s.heap.objs.size = none := I.hok.fresh (Nat.le_refl _)
    have I1 : Inv X pins σ H { s with heap := h', toks := s.toks + 1 } := I.turnedL (ch := [e, it]) (fun b o hb q => hk b o (fun z => hb (by simp [z])) (fun z => hb (by simp [z])) q) hf
    have I2 : Inv X pins σ (upd H s.heap.objs.size (.tup [.int (i : Nat), x])) { s with heap := h', toks := s.toks + 1 } := I1.adopt (o := .tup [.int (i : Nat), x]) fr I.sz (Nat.ne_of_gt I.lt) (fun y c ec z => by
        obtain ⟨v, q⟩ := I.cell y c ec
        exact absurd q.lt (by rw [z]; exact Nat.lt_irrefl _)) (fun q hq z => absurd (Heap.lt_size (I.pin q hq).1) (by rw [z]; exact Nat.lt_irrefl _))
      ⟨le_line (by simp), [.int (i : Nat) s.toks, u], .cons ⟨_, rfl⟩ (.cons ru .nil), ⟨_, hT, rfl, _, rfl⟩⟩
    have ne : ∀ b ∈ [e, it], b ≠ s.heap.objs.size := fun b hb => by
      rcases (by simpa using hb : b = e ∨ b = it) with rfl | rfl
      · exact Nat.ne_of_lt helt
      · exact Nat.ne_of_lt hilt
    have hf2 : ∀ b ∈ [e, it], FpOk X pins (upd H s.heap.objs.size (.tup [.int (i : Nat), x])) b := fun b hb => ⟨by rw [upd_ne (ne b hb)]; exact (hf b hb).1, (hf b hb).2⟩
    refine ⟨_, rfl, wpAny_letOwnedTupleGo_enum ho fun h2 he2 hs2 => ⟨.ref s.heap.objs.size, _, I2.turnedL (t' := s.toks + 1) (ch := [e]) (fun b o hb q => (hs2.2 b (fun z => hb (by simp [z]))).trans q) (fun b hb => hf2 b (by simp at hb; simp [hb])), rfl, ⟨s.heap.objs.size, x, rfl, fr, Same.new fr, upd_same, fun ys hy => by rw [I.list_inj hy hq]; exact hx⟩, ⟨⟨_, by simpa using he2⟩, hit'.at fun o q => (hs2.2 it (Ne.symm hne)).trans q⟩, fun b hb => (hf2 b hb).1⟩⟩
  done := by
    intro X hP hw hK hc i pins s σ H E I hf st hg
    subst hP hw hK
    obtain ⟨xs, hq, hx⟩ := hg
    obtain ⟨its, rv, p, hz⟩ := I.list hq
    obtain ⟨⟨old, he⟩, hit⟩ := st
    have hl := rv.length
    exact wpAny_pyNext_enum_end (I.ok.hd hc) he hit p.isList (by simp; omega) fun h' eb => ⟨rfl, I.turnedL (t' := s.toks) (ch := [it]) (fun b o hb q => eb b o (fun z => hb (by simp [z])) q) (fun b hb => hf b (by simp at hb; simp [hb]))⟩
  self := fun A i s Q E st h => let ⟨old, he⟩ := st.1; wpAny_pyIter_enum he h
section
variable {X : Cx} {elts : List Expr} {x1 : Nat} {tpos : Pos}
def iEnum (K : PySem.W.Frag) (ta : TA) : TI := fun σ H R => ta σ H fun vs H1 => ∃ a, vs = [.ref a] ∧ (∃ xs, SqL K H1 a xs) ∧ R (Ite K a) H1
theorem pi_enum (K : PySem.W.Frag) {a : Expr} {ta : TA} {p pos : Pos} (hg : Gl X "enumerate") (hm : X.mg "enumerate" = none) (ha : PA X [a] ta) (hs : starEach [a] X.env = [(false, eval a X.env)] := by rfl) (hK : X.K = K := by rfl) : PI X (.Tuple elts x1 tpos) (.Call (.Name "enumerate" p) [a] [] pos) (iEnum K ta) := by
  subst hK
  intro pins s σ H R I h
  refine Call_ (ld_blt I hg hm boot_enumerate (PyProof.Rows.callWith_type1 (thn (ha pos pins s σ H _ I h) fun us s1 ⟨vs, H1, I1, r1, q1⟩ => ?_) hs rfl))
  obtain ⟨l, e, ⟨xs, hq⟩, q⟩ := q1
  subst e
  obtain ⟨u, rfl, ru⟩ := vals1 r1
  cases ru
  obtain ⟨its, rv, pl, hz⟩ := I1.list hq
  refine call_enumerate_list pl.isList fun h' he hit hsz hk => ?_
  refine wpAny_pyIter_enum he ?_
  refine ⟨s1.heap.objs.size + 1, [s1.heap.objs.size + 1, s1.heap.objs.size], _, _, H1, rfl, I1.kept (t' := s1.toks) hk, turn_enum l _ _ (Nat.succ_ne_self _), ⟨⟨_, he⟩, hit⟩, fun b hb => ?_, q⟩
  have hb' : s1.heap.objs.size ≤ b := by
    rcases (by simpa using hb : b = s1.heap.objs.size + 1 ∨ b = s1.heap.objs.size) with rfl | rfl <;> omega
  exact I1.fpOk hb' (I1.hok.fresh hb')
theorem i_enum {K : PySem.W.Frag} {σ : St} {H : Hp} {R : It → Hp → Prop} {ts : TA} (h : ts σ H fun vs H1 => ∃ a, vs = [.ref a] ∧ (∃ xs, SqL K H1 a xs) ∧ R (Ite K a) H1) : iEnum K ts σ H R := h
theorem i_lref {a : Addr} {p : Addr → Prop} (h : p a) : ∃ b, [V.ref a] = [V.ref b] ∧ p b := ⟨a, rfl, h⟩
end
inductive PrK (H : Hp) : List V → List (Key × V) → Prop
  | nil : PrK H [] []
  | cons {p : Addr} {k : Key} {v : V} {vs : List V} {kvs : List (Key × V)} : H p = some (.tup [kV k, v]) → PrK H vs kvs → PrK H (.ref p :: vs) ((k, v) :: kvs)
theorem PrK.mono {H H' : Hp} (t : Tups H H') {vs : List V} {kvs : List (Key × V)} (h : PrK H vs kvs) : PrK H' vs kvs := by
  induction h with
  | nil => exact .nil
  | cons e _ ih => exact .cons (t _ _ e) ih
theorem PrK.snoc {H : Hp} {vs : List V} {kvs : List (Key × V)} {p : Addr} {k : Key} {v : V} (h : PrK H vs kvs) (e : H p = some (.tup [kV k, v])) : PrK H (vs ++ [.ref p]) (kvs ++ [(k, v)]) := by
  induction h with
  | nil => exact .cons e .nil
  | cons e' _ ih => exact .cons e' ih
def rDictP (K : PySem.W.Frag) : List V → Hp → VK → Prop := fun xs H Q => ∃ l vs kvs, xs = [.ref l] ∧ SqL K H l vs ∧ PrK H vs kvs ∧ New H (.dK (mergeK [] kvs)) Q
section
variable {X : Cx}
theorem PrK.at_ {pins : List (Addr × Obj)} {σ : St} {H : Hp} {s : Shared} (I : Inv X pins σ H s) : ∀ {vs : List V} {kvs : List (Key × V)} {us : List Value}, PrK H vs kvs → Vals vs us →
    ∃ ps : List (Key × Value), KV kvs ps ∧ ps.length = us.length ∧ ∀ (j : Nat) (x : Value), us[j]? = some x → ∃ T k key v, x = .ref T ∧ T ∉ ([] : List Addr) ∧ s.heap.IsTuple T #[key, v] ∧ (mixKind X.prog X.w).is k key = true ∧ ps[j]? = some (k, v)
  | _, _, _, .nil, r => by
    cases r
    exact ⟨[], .nil, rfl, fun j x e => by simp at e⟩
  | _, _, _, .cons (p := p) (k := k) (v := v) e h, r => by
    cases r with
    | cons r1 r2 =>
      cases r1
      obtain ⟨ps, h1, h2, h3⟩ := PrK.at_ I h r2
      obtain ⟨its, q1, q2, _⟩ := I.tuple (SqT.of e)
      obtain ⟨u1, u2, rfl, ra, rb⟩ := vals2 q1
      refine ⟨(k, u2) :: ps, .cons ⟨rfl, rb⟩ h1, by simp [h2], fun j x ej => ?_⟩
      cases j with
      | zero =>
        simp at ej
        subst ej
        exact ⟨p, k, u1, u2, rfl, by simp, q2, kV_is ra, rfl⟩
      | succ j => exact h3 j x (by simpa using ej)
def rMin2 : List V → Hp → VK → Prop := fun xs H Q => ∃ a b : Int, xs = [.int a, .int b] ∧ Q (.int (min a b)) H
theorem kcall_min2 (hh : X.calm = true := by rfl) : CallR X (.builtin "min") rMin2 := by
  intro pins s σ H xs us Q I r h
  obtain ⟨a, b, rfl, q⟩ := h
  obtain ⟨u, v, rfl, ⟨t1, rfl⟩, ⟨t2, rfl⟩⟩ := vals2 r
  refine min_two_ints (I.ok.hd hh) fun h' tk hk => ?_
  have I1 : Inv X pins σ H { s with heap := h', toks := tk } := I.kept hk
  by_cases c : b < a
  · rw [if_pos c]
    exact ⟨.int b, H, I1, ⟨_, rfl⟩, by rw [show min a b = b by omega] at q; exact q⟩
  · rw [if_neg c]
    exact ⟨.int a, H, I1, ⟨_, rfl⟩, by rw [show min a b = a by omega] at q; exact q⟩
theorem i_min2 {H : Hp} {Q : VK} {a b : Int} (h : Q (.int (min a b)) H) : rMin2 [.int a, .int b] H Q := ⟨a, b, rfl, h⟩
def rSlTN (K : PySem.W.Frag) : V → Option Int → Option Int → Hp → VK → Prop := fun x lo hi H Q => ∃ a xs, x = .ref a ∧ SqT K H a xs ∧ ¬ (HT.sIx xs.length 0 lo = 0 ∧ HT.sIx xs.length xs.length hi = xs.length) ∧ New H (.tup (cutV xs lo hi)) Q
def rCatTN (K : PySem.W.Frag) : R2 := fun x y H Q => ∃ a b xs ys, x = .ref a ∧ y = .ref b ∧ SqT K H a xs ∧ SqT K H b ys ∧ xs ≠ [] ∧ ys ≠ [] ∧ xs.length + ys.length ≤ sizeLine ∧ New H (.tup (xs ++ ys)) Q
def rIsN : R2 := fun x y H Q => y = .non ∧ Q (.bl (decide (x = .non))) H
def rNotN : R2 := fun x y H Q => y = .non ∧ Q (.bl (!decide (x = .non))) H
theorem i_isN {x : V} {H : Hp} {Q : VK} (h : Q (.bl (decide (x = .non))) H) : rIsN x .non H Q := ⟨rfl, h⟩
theorem i_notN {x : V} {H : Hp} {Q : VK} (h : Q (.bl (!decide (x = .non))) H) : rNotN x .non H Q := ⟨rfl, h⟩
def rIndexI (K : PySem.W.Frag) : V → List V → Hp → VK → Prop := fun x vs H Q => ∃ (l : Addr) (ys : List Int) (y : Int) (j : Nat), x = .ref l ∧ vs = [.int y] ∧ SqL K H l (ys.map V.int) ∧ ys[j]? = some y ∧ (∀ m, m < j → ys[m]? ≠ some y) ∧ Q (.int (j : Nat)) H
theorem i_gsub {to ti : TE} {t : TSet} {v : V} {σ : St} {H : Hp} {Q : St → Hp → Prop} (h : to σ H fun o H1 => ti σ H1 fun i H2 => t o i v H2 fun H3 => Q σ H3) : gSub to ti t v σ H Q := h
theorem i_setL {H : Hp} {Q : Hp → Prop} {p : Addr} {xs : List V} {k : Int} {j : Nat} {v : V} (h1 : H p = some (.lst xs)) (h2 : ixN xs.length k = some j) (h : Q (upd H p (.lst (xs.set j v)))) : rSetL (.ref p) (.int k) v H Q := ⟨p, xs, k, j, rfl, rfl, h1, h2, h⟩
def rNeU : R2 := fun x y H Q => ∃ t fs gs, (Tr.tup t).At H x fs ∧ (Tr.tup t).At H y gs ∧ Tr.hs t ≤ 60 ∧ Q (.bl false) H
def tSeqC (t u : TS) : TS := fun D σ H => ∃ R : St → Hp → Prop, t { D with nx := R } σ H ∧ ∀ σ' H', R σ' H' → u D σ' H'
def tPure (t : TT) : TT := t
theorem i_while {c : TT} {tb : TS} {nn bb cc : St → Hp → Prop} {rr : VK} {σ : St} {H : Hp} (W : Nat → St → Hp → Prop) (m : Nat) (h0 : W m σ H)
    (hs : ∀ m σ H, W m σ H → c σ H fun b H1 => if b = true then ∃ N : St → Hp → Prop, (∀ σ' H', N σ' H' → ∃ m', m' < m ∧ W m' σ' H') ∧ tb ⟨N, rr, nn, N⟩ σ H1 else nn σ H1) : tWhile c tb ⟨nn, rr, bb, cc⟩ σ H := ⟨W, ⟨m, h0⟩, hs⟩
end
end L2
namespace L2
open PySem
inductive Nd where
  | say (w : Str) (n : Nat)
  | hand (l : Int) (w : Str) (n : Nat)
  | put (b : Str) (e : Ex) (n : Nat)
  | test (c : Cd) (m n : Nat)
  | wait (l : Int) (bs : List (List Pt × Nat)) (n : Nat)
  | call (m n : Nat)
  | back
  | stop
def brT (b : List Pt × Nat) : Tr := .tup [.tup (b.1.map Pt.tr), .int (b.2 : Nat)]
def Nd.its : Nd → List Tr
  | .say w n => [.str "say", .str w, .int (n : Nat)]
  | .hand l w n => [.str "hand", .int l, .str w, .int (n : Nat)]
  | .put b e n => [.str "put", .str b, e.tr, .int (n : Nat)]
  | .test c m n => [.str "test", c.tr, .int (m : Nat), .int (n : Nat)]
  | .wait l bs n => [.str "wait", .int l, .tup (bs.map brT), .int (n : Nat)]
  | .call m n => [.str "call", .int (m : Nat), .int (n : Nat)]
  | .back => [.str "back"]
  | .stop => [.str "stop"]
def Nd.tr (d : Nd) : Tr := .tup d.its
def renB (f : Nat → Nat) (b : List Pt × Nat) : List Pt × Nat := (b.1, f b.2)
def Nd.ren (f : Nat → Nat) : Nd → Nd
  | .say w n => .say w (f n)
  | .hand l w n => .hand l w (f n)
  | .put b e n => .put b e (f n)
  | .test c m n => .test c (f m) (f n)
  | .wait l bs n => .wait l (bs.map (renB f)) (f n)
  | .call m n => .call (f m) (f n)
  | .back => .back
  | .stop => .stop
def Nd.nexts : Nd → List Nat
  | .say _ n => [n]
  | .hand _ _ n => [n]
  | .put _ _ n => [n]
  | .test _ m n => [m, n]
  | .wait _ bs n => bs.map (·.2) ++ [n]
  | .call m n => [m, n]
  | .back => []
  | .stop => []
abbrev bxs : List Str := ["many", "mana"]
abbrev bxs3 : List Str := ["many", "mana", "mano"]
def Nd.okAt (n i : Nat) : Nd → Prop
  | .say _ k => i < k ∧ k < n
  | .hand _ _ k => i < k ∧ k < n
  | .put b e k => (i < k ∧ k < n) ∧ (e.ok bxs ∧ e.h ≤ 4) ∧ b ∈ bxs3
  | .test c a b => (i < a ∧ a < n) ∧ (i < b ∧ b < n) ∧ c.ok bxs 5 ∧ c.h ≤ 3
  | .wait _ bs k => (∀ b ∈ bs, b.2 < n) ∧ k < n ∧ bs.length ≤ 3
  | .call a b => (i < a ∧ a < n) ∧ i < b ∧ b < n
  | .back => True
  | .stop => True
theorem Nd.okAt.lt {n i : Nat} {d : Nd} (h : d.okAt n i) : ∀ k ∈ d.nexts, k < n := by
  intro k hk
  cases d with
  | say w m => simp only [Nd.nexts, List.mem_singleton] at hk; subst hk; exact h.2
  | hand l w m => simp only [Nd.nexts, List.mem_singleton] at hk; subst hk; exact h.2
  | put b e m => simp only [Nd.nexts, List.mem_singleton] at hk; subst hk; exact h.1.2
  | test c a b =>
    simp only [Nd.nexts, List.mem_cons, List.not_mem_nil, or_false] at hk
    rcases hk with rfl | rfl
    · exact h.1.2
    · exact h.2.1.2
  | wait l bs m =>
    simp only [Nd.nexts, List.mem_append, List.mem_map, List.mem_singleton] at hk
    rcases hk with ⟨b, hb, rfl⟩ | rfl
    · exact h.1 b hb
    · exact h.2.1
  | call a b =>
    simp only [Nd.nexts, List.mem_cons, List.not_mem_nil, or_false] at hk
    rcases hk with rfl | rfl
    · exact h.1.2
    · exact h.2.2
  | back => simp [Nd.nexts] at hk
  | stop => simp [Nd.nexts] at hk
def Nd.one? : Nd → Option (Str × List Tr × Nat)
  | .say w n => some ("say", [.str w], n)
  | .hand l w n => some ("hand", [.int l, .str w], n)
  | .put b e n => some ("put", [.str b, e.tr], n)
  | _ => none
section
variable {H : Hp} {x : Tr} {xs : List Tr} {v : V} {vs ws : List V}
theorem ats_nil0 : Tr.Ats H [] vs [] ↔ vs = [] := by simp [Tr.Ats]
theorem ats_cons0 : Tr.Ats H (x :: xs) vs [] ↔ ∃ v ws, vs = v :: ws ∧ x.At H v [] ∧ Tr.Ats H xs ws [] := by
  simp only [Tr.Ats]
  constructor
  · rintro ⟨v, ws, f, g, h1, h2, h3, h4⟩
    obtain ⟨rfl, rfl⟩ := List.append_eq_nil_iff.mp h2.symm
    exact ⟨v, ws, h1, h3, h4⟩
  · rintro ⟨v, ws, h1, h3, h4⟩
    exact ⟨v, ws, [], [], h1, rfl, h3, h4⟩
theorem at_tup0 : (Tr.tup xs).At H v [] ↔ ∃ a vs, v = .ref a ∧ H a = some (.tup vs) ∧ Tr.Ats H xs vs [] := by simp only [Tr.At]
theorem at_int0 {i : Int} : (Tr.int i).At H v [] ↔ v = .int i := by simp [Tr.At]
theorem at_str0 {i : Str} : (Tr.str i).At H v [] ↔ v = .str i := by simp [Tr.At]
theorem ats_app0 : ∀ {xs ys : List Tr} {vs : List V}, Tr.Ats H (xs ++ ys) vs [] ↔ ∃ us ws, vs = us ++ ws ∧ Tr.Ats H xs us [] ∧ Tr.Ats H ys ws []
  | [], ys, vs => by
    constructor
    · intro h; exact ⟨[], vs, rfl, ats_nil0.mpr rfl, h⟩
    · rintro ⟨us, ws, rfl, h1, h2⟩
      rw [ats_nil0.mp h1]
      exact h2
  | x :: xs, ys, vs => by
    constructor
    · intro h
      obtain ⟨v, ws, rfl, h1, h2⟩ := ats_cons0.mp h
      obtain ⟨us, zs, rfl, h3, h4⟩ := ats_app0.mp h2
      exact ⟨v :: us, zs, rfl, ats_cons0.mpr ⟨v, us, rfl, h1, h3⟩, h4⟩
    · rintro ⟨us, ws, rfl, h1, h2⟩
      obtain ⟨v, us', rfl, h3, h4⟩ := ats_cons0.mp h1
      exact ats_cons0.mpr ⟨v, us' ++ ws, rfl, h3, ats_app0.mpr ⟨us', ws, rfl, h4, h2⟩⟩
theorem Tr.At.same {H H' : Hp} (h : x.At H v []) (s : Same H H') : x.At H' v [] := h.mono (s.keep _)
theorem Tr.Ats.same {H H' : Hp} (h : Tr.Ats H xs vs []) (s : Same H H') : Tr.Ats H' xs vs [] := h.mono (s.keep _)
theorem Tr.At.tups {H H' : Hp} (h : x.At H v []) (s : Tups H H') : x.At H' v [] := h.mono ⟨s, fun _ m => by simp at m⟩
theorem Tr.Ats.tups {H H' : Hp} (h : Tr.Ats H xs vs []) (s : Tups H H') : Tr.Ats H' xs vs [] := h.mono ⟨s, fun _ m => by simp at m⟩
end
section
variable {H : Hp} {v : V} {a : Addr}
theorem tup2_at {x y : Tr} {u v : V} (e : H a = some (.tup [u, v])) (h : x.At H u []) (h2 : y.At H v []) : (Tr.tup [x, y]).At H (.ref a) [] := at_tup0.mpr ⟨a, _, rfl, e, ats_cons0.mpr ⟨_, _, rfl, h, ats_cons0.mpr ⟨_, _, rfl, h2, ats_nil0.mpr rfl⟩⟩⟩
theorem int_at {i : Int} : (Tr.int i).At H (.int i) [] := at_int0.mpr rfl
theorem str_at0 {i : Str} : (Tr.str i).At H (.str i) [] := at_str0.mpr rfl
def Nd.word : Nd → Str
  | .say _ _ => "say"
  | .hand _ _ _ => "hand"
  | .put _ _ _ => "put"
  | .test _ _ _ => "test"
  | .wait _ _ _ => "wait"
  | .call _ _ => "call"
  | .back => "back"
  | .stop => "stop"
end
def natsV (l : List Nat) : List V := l.map fun k => V.int (k : Nat)
theorem natsV_int (l : List Nat) : natsV l = (l.map fun (k : Nat) => (k : Int)).map V.int := by simp [natsV]
theorem natsV_len (l : List Nat) : (natsV l).length = l.length := by simp [natsV]
theorem natsV_snoc (l : List Nat) (k : Nat) : natsV l ++ [V.int (k : Nat)] = natsV (l ++ [k]) := by simp [natsV]
def natsT (l : List Nat) : List Tr := l.map fun k => Tr.int (k : Nat)
def graphT (bs : List (Str × Int)) (ns : List Nd) (f : Nat) : List Tr := [.lst (bs.map boxT), .lst (ns.map Nd.tr), .int (f : Nat)]
structure GAt (H : Hp) (v : V) (bs : List (Str × Int)) (ns : List Nd) (f : Nat) (b n : Addr) : Prop where
  ex : ∃ a ub un, v = .ref a ∧ H a = some (.tup [.ref b, .ref n, .int (f : Nat)]) ∧ H b = some (.lst ub) ∧ Tr.Ats H (bs.map boxT) ub [] ∧ H n = some (.lst un) ∧ Tr.Ats H (ns.map Nd.tr) un []
theorem GAt.mono {H H' : Hp} {v : V} {bs : List (Str × Int)} {ns : List Nd} {f : Nat} {b n : Addr} (g : GAt H v bs ns f b n) (t : Tups H H') (kb : ∀ o, H b = some o → H' b = some o) (kn : ∀ o, H n = some o → H' n = some o) : GAt H' v bs ns f b n := by
  obtain ⟨a, ub, un, h1, h2, h3, h4, h5, h6⟩ := g.ex
  exact ⟨a, ub, un, h1, t _ _ h2, kb _ h3, h4.tups t, kn _ h5, h6.tups t⟩
theorem GAt.same {H H' : Hp} {v : V} {bs : List (Str × Int)} {ns : List Nd} {f : Nat} {b n : Addr} (g : GAt H v bs ns f b n) (s : Same H H') : GAt H' v bs ns f b n := g.mono s.tups (fun o h => s _ _ h) (fun o h => s _ _ h)
theorem hs_pts0 : ∀ ps : List Pt, Tr.hs (ps.map Pt.tr) = 0
  | [] => by simp [Tr.hs]
  | p :: ps => by
    have : p.tr.h = 0 := by cases p <;> simp [Pt.tr, Tr.h]
    simp [Tr.hs, hs_pts0 ps, this]
theorem ex_trh : ∀ e : Ex, e.tr.h = e.h + 1
  | .num _ => by simp [Ex.tr, Tr.h, Tr.hs, Ex.h]
  | .box _ => by simp [Ex.tr, Tr.h, Tr.hs, Ex.h]
  | .two k a b => by
    have h1 := ex_trh a
    have h2 := ex_trh b
    simp only [Ex.tr, Tr.h, Tr.hs, Ex.h, h1, h2]
    omega
theorem cd_trh {ys : List Str} : ∀ {c : Cd}, c.ok ys 5 → c.tr.h ≤ c.h + 7
  | .cmp k a b, h => by
    have h1 := ex_trh a
    have h2 := ex_trh b
    have h3 := h.1.2
    have h4 := h.2.2
    simp only [Cd.tr, Tr.h, Tr.hs, Cd.h, h1, h2]
    omega
  | .nt c, h => by
    have h1 := cd_trh (c := c) h
    simp only [Cd.tr, Tr.h, Tr.hs, Cd.h]
    omega
  | .both c d, h => by
    have h1 := cd_trh (c := c) h.1
    have h2 := cd_trh (c := d) h.2
    simp only [Cd.tr, Tr.h, Tr.hs, Cd.h]
    omega
theorem nd_h {n i : Nat} {d : Nd} (h : d.okAt n i) : d.tr.h ≤ 11 := by
  cases d with
  | say w m => simp [Nd.tr, Nd.its, Tr.h, Tr.hs]
  | hand l w m => simp [Nd.tr, Nd.its, Tr.h, Tr.hs]
  | put b e m =>
    have h1 := h.2.1.2
    have h2 := ex_trh e
    simp only [Nd.tr, Nd.its, Tr.h, Tr.hs]
    omega
  | test c a b =>
    have h1 := h.2.2.2
    have h2 := cd_trh h.2.2.1
    simp only [Nd.tr, Nd.its, Tr.h, Tr.hs]
    omega
  | wait l bs m =>
    have hb : ∀ bs : List (List Pt × Nat), Tr.hs (bs.map brT) ≤ 2 := fun bs => by
      induction bs with
      | nil => simp [Tr.hs]
      | cons b bs ih => simp only [List.map_cons, Tr.hs, brT, Tr.h, hs_pts0]; omega
    have := hb bs
    simp only [Nd.tr, Nd.its, Tr.h, Tr.hs]
    omega
  | call a b => simp [Nd.tr, Nd.its, Tr.h, Tr.hs]
  | back => simp [Nd.tr, Nd.its, Tr.h, Tr.hs]
  | stop => simp [Nd.tr, Nd.its, Tr.h, Tr.hs]
structure Gok (ns : List Nd) (f : Nat) : Prop where
  at_ : ∀ (i : Nat) (d : Nd), ns[i]? = some d → d.okAt ns.length i
  first : f < ns.length
  few : ns.length ≤ 100
theorem Gok.hs {ns : List Nd} {f : Nat} (g : Gok ns f) : Tr.hs (ns.map Nd.tr) ≤ 11 := by
  have : ∀ l : List Nd, (∀ d ∈ l, d.tr.h ≤ 11) → Tr.hs (l.map Nd.tr) ≤ 11 := fun l => by
    induction l with
    | nil => intro _; simp [Tr.hs]
    | cons d l ih =>
      intro h
      have h1 := h d (by simp)
      have h2 := ih fun x m => h x (by simp [m])
      simp only [List.map_cons, Tr.hs]
      omega
  refine this ns fun d hd => ?_
  obtain ⟨i, hi, e⟩ := List.getElem_of_mem hd
  exact nd_h (g.at_ i d (by rw [List.getElem?_eq_getElem hi, e]))
structure OutAt (H : Hp) (v : V) (bs : List (Str × Int)) (ns : List Nd) (f : Nat) (sf : List Nat) (b n l : Addr) : Prop where
  ex : ∃ a g, v = .ref a ∧ H a = some (.tup [.ref g, .ref l]) ∧ GAt H (.ref g) bs ns f b n ∧ H l = some (.lst (natsV sf))
def outT (bs : List (Str × Int)) (ns : List Nd) (f : Nat) (sf : List Nat) : List Tr := [.tup (graphT bs ns f), .lst (natsT sf)]
theorem OutAt.mono {H H' : Hp} {v : V} {bs : List (Str × Int)} {ns : List Nd} {f : Nat} {sf : List Nat} {b n l : Addr} (o : OutAt H v bs ns f sf b n l) (s : Same H H') : OutAt H' v bs ns f sf b n l := by
  obtain ⟨a, g, h0, h1, h2, h3⟩ := o.ex
  exact ⟨a, g, h0, s _ _ h1, h2.same s, s _ _ h3⟩
def leftN (ns : List Nd) (ks sf : List Nat) : List Nd := ks.map fun i => (ns.getD i .back).ren fun k => sf.getD k 0
def wayV : Option Nat → V
  | none => .non
  | some k => .int (k : Nat)
def waysV (ws : List (Option Nat)) : List V := ws.map wayV
def placeKv (ks : List Nat) : List (Key × V) := ks.zipIdx.map fun p => (Sum.inl (p.1 : Int), V.int (p.2 : Nat))
def tailW (ns : List Nd) : Nd → Option Nat
  | .call m n => if (ns.getD n .stop).word = Str.ofString "back" then some m else none
  | _ => none
def tailWs (ns : List Nd) : List (Option Nat) := ns.map (tailW ns)
end L2
namespace L2
open PySem PySem.Spec PyProof.Rows
def tDNewN : TE := fun _ H Q => New H (.dK []) Q
section
variable {σ : St} {H : Hp} {Q : VK} {QT : Bool → Hp → Prop} {td ty tv te : TE} {nn bb cc : St → Hp → Prop} {rr : VK}
theorem i_dnew (h : New H (.dK []) Q) : tDNewN σ H Q := h
theorem i_tB (h : te σ H fun x H1 => ∃ c, x = .bl c ∧ QT c H1) : tB te σ H QT := h
theorem i_din (h : ty σ H fun y H1 => td σ H1 fun x H2 => ∃ a o, x = .ref a ∧ DGet H2 a y o ∧ Q (.bl o.isSome) H2) : tDIn ty td σ H Q := h
theorem i_dnotin (h : ty σ H fun y H1 => td σ H1 fun x H2 => ∃ a o, x = .ref a ∧ DGet H2 a y o ∧ Q (.bl (!o.isSome)) H2) : tDNotIn ty td σ H Q := h
theorem i_dput (h : tv σ H fun v H1 => td σ H1 fun x H2 => ty σ H2 fun y H3 => ∃ a H4, x = .ref a ∧ DPut H3 a y v H4 ∧ nn σ H4) : sDPut td ty tv ⟨nn, rr, bb, cc⟩ σ H := h
def SetD (H : Hp) (d : Addr) (rd : List Str) : Prop := ∃ kvs, H d = some (.dK kvs) ∧ kvs.length ≤ rd.length ∧ ∀ s : Str, (valV kvs (Sum.inr s)).isSome = decide (s ∈ rd)
theorem SetD.mono {H' : Hp} {d : Addr} {rd : List Str} (h : SetD H d rd) (s : Same H H') : SetD H' d rd := by
  obtain ⟨kvs, h1, h2, h3⟩ := h
  exact ⟨kvs, s _ _ h1, h2, h3⟩
theorem SetD.put {d : Addr} {rd : List Str} {w : Str} {v : V} (h : SetD H d rd) (hz : rd.length < 1000000) : ∃ H4, DPut H d (.str w) v H4 ∧ SetD H4 d (rd ++ [w]) ∧ ∃ o, H4 = upd H d (.dK o) := by
  obtain ⟨kvs, h2, h3, h4⟩ := h
  refine ⟨_, .inl ⟨kvs, Sum.inr w, h2, rfl, Nat.lt_of_lt_of_le (show kvs.length < 1000000 by omega) (le_line (Nat.le_refl _)), rfl⟩, ⟨putK kvs (Sum.inr w) v, upd_same, ?_, fun s => ?_⟩, _, rfl⟩
  · have := length_putK kvs (Sum.inr w) v
    simp only [List.length_append, List.length_cons, List.length_nil]
    omega
  · rw [valV_put]
    by_cases e : s = w
    · subst e
      rw [if_pos rfl]
      simp
    · rw [if_neg (fun z => e (by cases z; rfl)), h4]
      simp [e]
end
def Nd.reads : Nd → List Str
  | .put _ e _ => e.names
  | .test c _ _ => c.names
  | _ => []
def readN (ns : List Nd) : List Str := ns.flatMap Nd.reads
def deafW (rd : List Str) : Nd → Option Nat
  | .put b _ n => if b ∈ rd then none else some n
  | _ => none
def deafWs (ns : List Nd) : List (Option Nat) := ns.map (deafW (readN ns))
end L2
namespace L2
def addAll (row : List Nat) (ks : List Nat) : List Nat := ks.foldl (fun r k => if k ∈ r then r else r ++ [k]) row
theorem addAll_snoc (row ks : List Nat) (k : Nat) : addAll row (ks ++ [k]) = if k ∈ addAll row ks then addAll row ks else addAll row ks ++ [k] := by
  unfold addAll
  rw [List.foldl_append]
  rfl
theorem addAll_ok {n : Nat} {row : List Nat} (hn : row.Nodup) (hl : ∀ k ∈ row, k < n) : ∀ (ks : List Nat), (∀ k ∈ ks, k < n) → (∃ t, addAll row ks = row ++ t) ∧ (addAll row ks).Nodup ∧ (∀ k ∈ addAll row ks, k < n) ∧ ∀ k ∈ ks, k ∈ addAll row ks := by
  have gen : ∀ (m : Nat) (ks : List Nat), ks.length = m → (∀ k ∈ ks, k < n) → (∃ t, addAll row ks = row ++ t) ∧ (addAll row ks).Nodup ∧ (∀ k ∈ addAll row ks, k < n) ∧ ∀ k ∈ ks, k ∈ addAll row ks := by
    intro m
    induction m with
    | zero =>
      intro ks hk _
      rw [List.length_eq_zero_iff] at hk
      subst hk
      exact ⟨⟨[], by simp [addAll]⟩, hn, hl, by simp⟩
    | succ m ih =>
      intro ks hk hlt
      obtain ⟨ls, k, rfl⟩ : ∃ l k, ks = l ++ [k] := ⟨ks.dropLast, ks.getLast (by intro z; rw [z] at hk; simp at hk), (List.dropLast_concat_getLast _).symm⟩
      obtain ⟨⟨t, h1⟩, h2, h3, h4⟩ := ih ls (by simpa using hk) (fun x hx => hlt x (by simp [hx]))
      rw [addAll_snoc]
      by_cases hk : k ∈ addAll row ls
      · rw [if_pos hk]
        refine ⟨⟨t, h1⟩, h2, h3, fun x hx => ?_⟩
        rcases List.mem_append.mp hx with hx | hx
        · exact h4 x hx
        · rw [List.mem_singleton.mp hx]; exact hk
      · rw [if_neg hk]
        refine ⟨⟨t ++ [k], by rw [h1, List.append_assoc]⟩, ?_, ?_, ?_⟩
        · rw [List.nodup_append]
          refine ⟨h2, by simp, fun a ha b hb => ?_⟩
          rw [List.mem_singleton.mp hb]
          exact fun z => hk (z ▸ ha)
        · intro x hx
          rcases List.mem_append.mp hx with hx | hx
          · exact h3 x hx
          · rw [List.mem_singleton.mp hx]; exact hlt k (by simp)
        · intro x hx
          rcases List.mem_append.mp hx with hx | hx
          · exact List.mem_append_left _ (h4 x hx)
          · rw [List.mem_singleton.mp hx]; simp
  exact fun ks => gen ks.length ks rfl
theorem pigeon : ∀ (n : Nat) (l : List Nat), l.Nodup → (∀ k ∈ l, k < n) → l.length ≤ n
  | 0, l, _, h => by
    cases l with
    | nil => simp
    | cons a l => exact absurd (h a (by simp)) (Nat.not_lt_zero _)
  | n + 1, l, hn, h => by
    by_cases hm : n ∈ l
    · have h1 := List.length_erase_of_mem hm
      have h2 := pigeon n (l.erase n) (hn.erase n) (fun k hk => by
        have h3 := hn.mem_erase_iff.mp hk
        have := h k h3.2
        have := h3.1
        omega)
      have : 0 < l.length := List.length_pos_of_mem hm
      omega
    · have := pigeon n l hn (fun k hk => by
        have h1 := h k hk
        have : k ≠ n := fun z => hm (z ▸ hk)
        omega)
      omega
def bfs (nx : Nat → List Nat) : Nat → Nat → List Nat → List Nat
  | 0, _, row => row
  | fuel + 1, p, row => match row[p]? with
    | none => row
    | some k => bfs nx fuel (p + 1) (addAll row (nx k))
structure Bf (nx : Nat → List Nat) (n p : Nat) (row : List Nat) : Prop where
  nd : row.Nodup
  lt : ∀ k ∈ row, k < n
  le : p ≤ row.length
  cl : ∀ (i k : Nat), i < p → row[i]? = some k → ∀ j ∈ nx k, j ∈ row
theorem Bf.step {nx : Nat → List Nat} {n p k : Nat} {row : List Nat} (h : Bf nx n p row) (e : row[p]? = some k) (hx : ∀ j ∈ nx k, j < n) : Bf nx n (p + 1) (addAll row (nx k)) := by
  obtain ⟨⟨t, h1⟩, h2, h3, h4⟩ := addAll_ok h.nd h.lt (nx k) hx
  have hp := (List.getElem?_eq_some_iff.mp e).1
  refine ⟨h2, h3, by rw [h1, List.length_append]; omega, fun i k' hi ek j hj => ?_⟩
  have hi' : i < row.length := by omega
  rw [h1, List.getElem?_append_left hi'] at ek
  by_cases hip : i < p
  · rw [h1]; exact List.mem_append_left _ (h.cl i k' hip ek j hj)
  · have : i = p := by omega
    subst this
    rw [e] at ek
    cases ek
    exact h4 j hj
theorem Bf.few {nx : Nat → List Nat} {n p : Nat} {row : List Nat} (h : Bf nx n p row) : row.length ≤ n := pigeon n row h.nd h.lt
def posW (row : List Nat) (n : Nat) : List (Option Nat) := (List.range n).map fun k => if k ∈ row then some (row.idxOf k) else none
def posT (row : List Nat) (n i : Nat) : List (Option Nat) := (List.range n).map fun k => if k ∈ row.take i then some (row.idxOf k) else none
end L2
namespace L2
open PySem PySem.Spec PyProof.Rows
section
variable {X : Cx} {σ : St} {H : Hp} {Q : VK} {QT : Bool → Hp → Prop} {td ty tv te : TE} {nn bb cc : St → Hp → Prop} {rr : VK}
def rRepN : R2 := fun x y H Q => ∃ l k xs, x = .ref l ∧ y = .int k ∧ H l = some (.lst xs) ∧ -(2 ^ 63) ≤ k ∧ k < 2 ^ 63 ∧ xs.length * k.toNat ≤ sizeLine ∧ New H (.lst (List.replicate k.toNat xs).flatten) Q
theorem kop_repN : OpR X (binaryOp .Mult) rRepN := by
  intro pins s σ H x y v u Q I rx ry h
  obtain ⟨l, k, xs, e1, e2, h1, h2, h3, h4, h5⟩ := h
  exact op_rep pins s σ H x y v u Q I rx ry ⟨l, k, xs, e1, e2, h1, h2, h3, h4, New.to h5⟩
def SetI (H : Hp) (d : Addr) (row : List Nat) : Prop := ∃ kvs, H d = some (.dK kvs) ∧ kvs.length ≤ row.length ∧ ∀ k : Nat, (valV kvs (Sum.inl (k : Int))).isSome = decide (k ∈ row)
theorem SetI.mono {H' : Hp} {d : Addr} {row : List Nat} (h : SetI H d row) (s : Same H H') : SetI H' d row := by
  obtain ⟨kvs, h1, h2, h3⟩ := h
  exact ⟨kvs, s _ _ h1, h2, h3⟩
theorem SetI.put {d : Addr} {row : List Nat} {k : Nat} {v : V} (h : SetI H d row) (hz : row.length < 1000000) : ∃ H4, DPut H d (.int (k : Nat)) v H4 ∧ SetI H4 d (row ++ [k]) ∧ ∃ o, H4 = upd H d (.dK o) := by
  obtain ⟨kvs, h2, h3, h4⟩ := h
  refine ⟨_, .inl ⟨kvs, Sum.inl (k : Int), h2, rfl, Nat.lt_of_lt_of_le (show kvs.length < 1000000 by omega) (le_line (Nat.le_refl _)), rfl⟩, ⟨putK kvs (Sum.inl (k : Int)) v, upd_same, ?_, fun s => ?_⟩, _, rfl⟩
  · have := length_putK kvs (Sum.inl (k : Int)) v
    simp only [List.length_append, List.length_cons, List.length_nil]
    omega
  · rw [valV_put]
    by_cases e : s = k
    · subst e
      rw [if_pos rfl]
      simp
    · rw [if_neg (fun z => e (by have := Sum.inl.inj z; omega)), h4]
      simp [e]
end
def wayT : Option Nat → Tr
  | none => .non
  | some k => .int (k : Nat)
def waysT (ws : List (Option Nat)) : List Tr := ws.map wayT
structure OutW (H : Hp) (v : V) (bs : List (Str × Int)) (ns : List Nd) (f : Nat) (ws : List (Option Nat)) (b n l : Addr) : Prop where
  ex : ∃ a g, v = .ref a ∧ H a = some (.tup [.ref g, .ref l]) ∧ GAt H (.ref g) bs ns f b n ∧ H l = some (.lst (waysV ws))
def outTW (bs : List (Str × Int)) (ns : List Nd) (f : Nat) (ws : List (Option Nat)) : List Tr := [.tup (graphT bs ns f), .lst (waysT ws)]
theorem OutW.mono {H H' : Hp} {v : V} {bs : List (Str × Int)} {ns : List Nd} {f : Nat} {ws : List (Option Nat)} {b n l : Addr} (o : OutW H v bs ns f ws b n l) (s : Same H H') : OutW H' v bs ns f ws b n l := by
  obtain ⟨a, g, h0, h1, h2, h3⟩ := o.ex
  exact ⟨a, g, h0, s _ _ h1, h2.same s, s _ _ h3⟩
def nxN (ns : List Nd) (k : Nat) : List Nat := (ns.getD k .back).nexts
def rowN (ns : List Nd) (f : Nat) : List Nat := bfs (nxN ns) (ns.length + 1) 0 [f]
def cutN (ns : List Nd) (f : Nat) : List Nd := (rowN ns f).map fun i => (ns.getD i .back).ren fun k => (rowN ns f).idxOf k
end L2
namespace L2
open PySem PySem.Spec PyProof.Rows
def Itz (K : PySem.W.Frag) (a b : Addr) : It :=
  ⟨fun i H => ∃ xs ys x y, SqL K H a xs ∧ SqL K H b ys ∧ xs[i]? = some x ∧ ys[i]? = some y, fun i H v H' => ∃ p x y, v = .ref p ∧ H p = none ∧ Same H H' ∧ H' p = some (.tup [x, y]) ∧ (∀ xs, SqL K H a xs → xs[i]? = some x) ∧ ∀ ys, SqL K H b ys → ys[i]? = some y, fun i H => ∃ xs ys, SqL K H a xs ∧ SqL K H b ys ∧ (xs.length ≤ i ∨ ys.length ≤ i)⟩
section
variable {X : Cx} {elts : List Expr} {x1 : Nat} {tpos : Pos}
def iZip (K : PySem.W.Frag) (ta : TA) : TI := fun σ H R => ta σ H fun vs H1 => ∃ a b, vs = [.ref a, .ref b] ∧ (∃ xs, SqL K H1 a xs) ∧ (∃ ys, SqL K H1 b ys) ∧ R (Itz K a b) H1
end
end L2
namespace L2
open PySem PySem.Spec PyProof.Rows
def rIsC : R2 := fun x y H Q => ∃ b, y = .bl b ∧ ((∃ c, x = .bl c) ∨ ∃ a, x = .ref a) ∧ Q (.bl (decide (x = .bl b))) H
theorem i_isCb {c b : Bool} {H : Hp} {Q : VK} (h : Q (.bl (decide (c = b))) H) : rIsC (.bl c) (.bl b) H Q := ⟨b, rfl, .inl ⟨c, rfl⟩, by rw [show decide (V.bl c = V.bl b) = decide (c = b) by cases c <;> cases b <;> rfl]; exact h⟩
theorem i_isCr {a : Addr} {b : Bool} {H : Hp} {Q : VK} (h : Q (.bl false) H) : rIsC (.ref a) (.bl b) H Q := ⟨b, rfl, .inr ⟨a, rfl⟩, by rw [show decide (V.ref a = V.bl b) = false from decide_eq_false (fun e => by cases e)]; exact h⟩
theorem i_isTT {H : Hp} {Q : VK} (h : Q (.bl true) H) : rIsC (.bl true) (.bl true) H Q := i_isCb h
theorem i_isTF {H : Hp} {Q : VK} (h : Q (.bl false) H) : rIsC (.bl true) (.bl false) H Q := i_isCb h
theorem i_isFT {H : Hp} {Q : VK} (h : Q (.bl false) H) : rIsC (.bl false) (.bl true) H Q := i_isCb h
theorem i_isFF {H : Hp} {Q : VK} (h : Q (.bl true) H) : rIsC (.bl false) (.bl false) H Q := i_isCb h
def inB : Option Int → Bool
  | some x => decide (0 ≤ x) && decide (x ≤ 9)
  | none => false
def pl2 (k : Bool) : Option Int → Option Int → Option Int
  | some x, some y => some (if k then x + y else x - y)
  | _, _ => none
def Ex.plain : Ex → Option Int
  | .num i => some i
  | .box _ => none
  | .two k a b => pl2 k a.plain b.plain
def Ex.fold : Ex → Ex
  | .num i => .num i
  | .box n => .box n
  | .two k a b => if inB (pl2 k a.plain b.plain) = true then .num ((pl2 k a.plain b.plain).getD 0) else .two k a.fold b.fold
def Ex.dn : Ex → Bool
  | .num i => inB (some i)
  | .box _ => true
  | .two k a b => !inB (pl2 k a.plain b.plain) && (a.dn && b.dn)
theorem inB_some {o : Option Int} (h : inB o = true) : ∃ x, o = some x ∧ 0 ≤ x ∧ x ≤ 9 := by
  cases o with
  | none => cases h
  | some x =>
    simp only [inB, Bool.and_eq_true, decide_eq_true_iff] at h
    exact ⟨x, rfl, h⟩
theorem Ex.fold_plain : ∀ e : Ex, e.fold.plain = e.plain
  | .num _ => rfl
  | .box _ => rfl
  | .two k a b => by
    simp only [Ex.fold]
    split
    · rename_i h
      obtain ⟨x, e, _⟩ := inB_some h
      simp [Ex.plain, e]
    · simp only [Ex.plain, Ex.fold_plain a, Ex.fold_plain b]
theorem Ex.fold_dn {ns : List Str} : ∀ {e : Ex}, e.ok ns → e.fold.dn = true
  | .num i, h => by
    simp only [Ex.fold, Ex.dn, inB, Bool.and_eq_true, decide_eq_true_iff]
    have : 0 ≤ i ∧ i < 10 := h
    omega
  | .box _, _ => rfl
  | .two k a b, h => by
    simp only [Ex.fold]
    split
    · rename_i h
      obtain ⟨x, e, h1, h2⟩ := inB_some h
      rw [e]
      simp only [Option.getD_some, Ex.dn, inB, Bool.and_eq_true, decide_eq_true_iff]
      exact ⟨h1, h2⟩
    · rename_i h0
      have h1 := Ex.fold_dn (e := a) h.1
      have h2 := Ex.fold_dn (e := b) h.2
      simp only [Ex.dn, Ex.fold_plain, h1, h2]
      simpa using h0
theorem Ex.fold_h : ∀ e : Ex, e.fold.h ≤ e.h
  | .num _ => Nat.le_refl _
  | .box _ => Nat.le_refl _
  | .two k a b => by
    have h1 := Ex.fold_h a
    have h2 := Ex.fold_h b
    simp only [Ex.fold]
    split
    · simp [Ex.h]
    · simp only [Ex.h]; omega
theorem Ex.fold_ok {ns : List Str} : ∀ {e : Ex}, e.ok ns → e.fold.ok ns
  | .num _, h => h
  | .box _, h => h
  | .two k a b, h => by
    simp only [Ex.fold]
    split
    · rename_i h
      obtain ⟨x, e, h1, h2⟩ := inB_some h
      rw [e]
      exact ⟨h1, by show x < 10; omega⟩
    · exact ⟨Ex.fold_ok h.1, Ex.fold_ok h.2⟩
theorem Ex.fold_num {ns : List Str} {e : Ex} (ho : e.ok ns) : (∃ x, e.fold = .num x ∧ e.plain = some x ∧ inB e.plain = true) ∨ ((∀ x, e.fold ≠ .num x) ∧ inB e.plain = false) := by
  cases e with
  | num i => exact .inl ⟨i, rfl, rfl, by have : 0 ≤ i ∧ i < 10 := ho; simp only [Ex.plain, inB, Bool.and_eq_true, decide_eq_true_iff]; omega⟩
  | box n => exact .inr ⟨fun x h => (by cases h), rfl⟩
  | two k a b =>
    by_cases h : inB (pl2 k a.plain b.plain) = true
    · left
      obtain ⟨x, e, h1, h2⟩ := inB_some h
      refine ⟨x, ?_, e, h⟩
      simp only [Ex.fold, if_pos h]
      rw [e]
      rfl
    · right
      refine ⟨fun x => ?_, by simpa [Ex.plain] using h⟩
      simp [Ex.fold, h]
def cmpB (k : Bool) (x y : Int) : Bool := if k then decide (x = y) else decide (x < y)
def kn2 (k : Bool) (a b : Option Int) : Option Bool := if inB a = true ∧ inB b = true then some (cmpB k (a.getD 0) (b.getD 0)) else none
def kboth (a b : Option Bool) : Option Bool := if a = some false ∨ b = some false then some false else if a = none ∨ b = none then none else some true
def Cd.known : Cd → Option Bool
  | .cmp k a b => kn2 k a.plain b.plain
  | .nt c => c.known.map (!·)
  | .both c d => kboth c.known d.known
def foldCmp (k : Bool) : Ex → Ex → Bool ⊕ Cd
  | .num x, .num y => .inl (cmpB k x y)
  | a, b => .inr (.cmp k a b)
def foldNt : Bool ⊕ Cd → Bool ⊕ Cd
  | .inl b => .inl !b
  | .inr c => .inr (.nt c)
def foldBoth : Bool ⊕ Cd → Bool ⊕ Cd → Bool ⊕ Cd
  | .inl false, _ => .inl false
  | .inl true, y => y
  | .inr c, .inl false => .inl false
  | .inr c, .inl true => .inr c
  | .inr c, .inr d => .inr (.both c d)
def Cd.fold : Cd → Bool ⊕ Cd
  | .cmp k a b => foldCmp k a.fold b.fold
  | .nt c => foldNt c.fold
  | .both c d => foldBoth c.fold d.fold
def Cd.dn : Cd → Bool
  | .cmp k a b => (kn2 k a.plain b.plain).isNone && (a.dn && b.dn)
  | .nt c => (c.known.map (!·)).isNone && c.dn
  | .both c d => (kboth c.known d.known).isNone && (c.dn && d.dn)
def FoldsTo (c : Cd) (n : Nat) (ns : List Str) : Bool ⊕ Cd → Prop
  | .inl b => c.known = some b
  | .inr d => c.known = none ∧ d.known = none ∧ d.dn = true ∧ d.h ≤ c.h ∧ d.ok ns n
theorem Cd.folds {ns : List Str} {n : Nat} : ∀ {c : Cd}, c.ok ns n → FoldsTo c n ns c.fold
  | .cmp k a b, h => by
    obtain ⟨⟨ha, ha'⟩, hb, hb'⟩ := h
    have h1 := Ex.fold_num ha
    have h2 := Ex.fold_num hb
    have p1 := Ex.fold_plain a
    have p2 := Ex.fold_plain b
    have no : (¬(inB a.plain = true ∧ inB b.plain = true)) → foldCmp k a.fold b.fold = .inr (.cmp k a.fold b.fold) → FoldsTo (.cmp k a b) n ns (Cd.cmp k a b).fold := fun hn e => by
      show FoldsTo _ _ _ (foldCmp k a.fold b.fold)
      rw [e]
      have e1 : kn2 k a.plain b.plain = none := by unfold kn2; rw [if_neg hn]
      refine ⟨e1, by simp only [Cd.known, p1, p2]; exact e1, ?_, Nat.le_refl _, ⟨Ex.fold_ok ha, Nat.le_trans (Ex.fold_h a) ha'⟩, Ex.fold_ok hb, Nat.le_trans (Ex.fold_h b) hb'⟩
      simp only [Cd.dn, p1, p2, e1, Ex.fold_dn ha, Ex.fold_dn hb]
      rfl
    rcases h1 with ⟨x, e1, e2, e3⟩ | ⟨e1, e2⟩
    · rcases h2 with ⟨y, g1, g2, g3⟩ | ⟨g1, g2⟩
      · show FoldsTo _ _ _ (foldCmp k a.fold b.fold)
        rw [e1, g1]
        show kn2 k a.plain b.plain = some (cmpB k x y)
        unfold kn2
        rw [if_pos ⟨e3, g3⟩, e2, g2]
        rfl
      · refine no (by rw [g2]; simp) ?_
        rw [e1]
        cases e : b.fold with
        | num y => exact absurd e (g1 y)
        | box y => rfl
        | two y z w => rfl
    · refine no (by rw [e2]; simp) ?_
      cases e : a.fold with
      | num y => exact absurd e (e1 y)
      | box y => rfl
      | two y z w => rfl
  | .nt c, h => by
    have ih := Cd.folds (c := c) h
    show FoldsTo _ _ _ (foldNt c.fold)
    cases e : c.fold with
    | inl b =>
      rw [e] at ih
      show c.known.map (!·) = some !b
      rw [show c.known = some b from ih]
      rfl
    | inr d =>
      rw [e] at ih
      obtain ⟨h1, h2, h3, h4, h5⟩ := ih
      refine ⟨by simp [Cd.known, h1], by simp [Cd.known, h2], by simp [Cd.dn, h2, h3], ?_, h5⟩
      simp only [Cd.h]
      omega
  | .both c d, h => by
    have i1 := Cd.folds (c := c) h.1
    have i2 := Cd.folds (c := d) h.2
    show FoldsTo _ _ _ (foldBoth c.fold d.fold)
    cases e : c.fold with
    | inl b =>
      rw [e] at i1
      have k1 : c.known = some b := i1
      cases b with
      | false =>
        show kboth c.known d.known = some false
        simp [kboth, k1]
      | true =>
        show FoldsTo _ _ _ d.fold
        cases e2 : d.fold with
        | inl b2 =>
          rw [e2] at i2
          have k2 : d.known = some b2 := i2
          show kboth c.known d.known = some b2
          rw [k1, k2]
          cases b2 <;> rfl
        | inr d2 =>
          rw [e2] at i2
          obtain ⟨h1, h2, h3, h4, h5⟩ := i2
          refine ⟨by simp [Cd.known, kboth, k1, h1], h2, h3, ?_, h5⟩
          simp only [Cd.h]
          omega
    | inr c2 =>
      rw [e] at i1
      obtain ⟨h1, h2, h3, h4, h5⟩ := i1
      cases e2 : d.fold with
      | inl b2 =>
        rw [e2] at i2
        have k2 : d.known = some b2 := i2
        cases b2 with
        | false =>
          show kboth c.known d.known = some false
          simp [kboth, k2]
        | true =>
          refine ⟨by simp [Cd.known, kboth, k2, h1], h2, h3, ?_, h5⟩
          simp only [Cd.h]
          omega
      | inr d2 =>
        rw [e2] at i2
        obtain ⟨g1, g2, g3, g4, g5⟩ := i2
        refine ⟨by simp [Cd.known, kboth, h1, g1], by simp [Cd.known, kboth, h2, g2], by simp [Cd.dn, kboth, h2, g2, h3, g3], ?_, h5, g5⟩
        simp only [Cd.h]
        omega
def fcAt (H : Hp) : Bool ⊕ Cd → V → Prop
  | .inl b, v => v = .bl b
  | .inr c, v => c.At H v
theorem fcAt.mono {H H' : Hp} {x : Bool ⊕ Cd} {v : V} (h : fcAt H x v) (t : Tups H H') : fcAt H' x v := by
  cases x with
  | inl b => exact h
  | inr c => exact Cd.At.mono t h
theorem Cd.At.ref {H : Hp} {c : Cd} {v : V} (h : c.At H v) : ∃ a, v = .ref a := by
  cases c with
  | cmp k e f => obtain ⟨a, _, _, e, _⟩ := h; exact ⟨a, e⟩
  | nt c => obtain ⟨a, _, e, _⟩ := h; exact ⟨a, e⟩
  | both c d => obtain ⟨a, _, _, e, _⟩ := h; exact ⟨a, e⟩
def oiV : Option Int → V
  | none => .non
  | some i => .int i
def obV : Option Bool → V
  | none => .non
  | some b => .bl b
end L2
namespace L2
open PySem PySem.Spec PyProof.Rows
theorem i_zip {K : PySem.W.Frag} {σ : St} {H : Hp} {R : It → Hp → Prop} {ts : TA} (h : ts σ H fun vs H1 => ∃ a b, vs = [.ref a, .ref b] ∧ (∃ xs, SqL K H1 a xs) ∧ (∃ ys, SqL K H1 b ys) ∧ R (Itz K a b) H1) : iZip K ts σ H R := h
def Nd.foldN : Nd → Nd
  | .put b e n => .put b e.fold n
  | .test c m n => match c.fold with
    | .inr d => .test d m n
    | .inl _ => .test c m n
  | d => d
def Nd.foldW : Nd → Option Nat
  | .test c m n => match c.fold with
    | .inl true => some m
    | .inl false => some n
    | .inr _ => none
  | _ => none
def FNat (H : Hp) (d : Nd) (v : V) : Prop := (d.foldW = none ∧ d.foldN.tr.At H v []) ∨ ∃ a b c m n, d = .test c m n ∧ c.fold = .inl b ∧ v = .ref a ∧ H a = some (.tup [.str "test", .bl b, .int (m : Nat), .int (n : Nat)])
theorem FNat.same {H H' : Hp} {d : Nd} {v : V} (h : FNat H d v) (s : Same H H') : FNat H' d v := by
  rcases h with ⟨h1, h2⟩ | ⟨a, b, c, m, n, h1, h2, h3, h4⟩
  · exact .inl ⟨h1, h2.same s⟩
  · exact .inr ⟨a, b, c, m, n, h1, h2, h3, s _ _ h4⟩
theorem Nd.foldN_ok {n i : Nat} {d : Nd} (h : d.okAt n i) : d.foldN.okAt n i := by
  cases d with
  | put b e k => exact ⟨h.1, ⟨Ex.fold_ok h.2.1.1, Nat.le_trans (Ex.fold_h e) h.2.1.2⟩, h.2.2⟩
  | test c a b =>
    have hf := Cd.folds h.2.2.1
    simp only [Nd.foldN]
    cases e : c.fold with
    | inl x => exact h
    | inr d =>
      rw [e] at hf
      exact ⟨h.1, h.2.1, hf.2.2.2.2, Nat.le_trans hf.2.2.2.1 h.2.2.2⟩
  | _ => exact h
theorem Gok.fold {ns : List Nd} {f : Nat} (g : Gok ns f) : Gok (ns.map Nd.foldN) f := ⟨fun i d h => by
  rw [List.getElem?_map] at h
  cases e : ns[i]? with
  | none => rw [e] at h; cases h
  | some d' =>
    rw [e] at h
    obtain rfl : d'.foldN = d := Option.some.inj h
    rw [List.length_map]
    exact Nd.foldN_ok (g.at_ i d' e), by rw [List.length_map]; exact g.first, by rw [List.length_map]; exact g.few⟩
def foldWs (ns : List Nd) : List (Option Nat) := ns.map Nd.foldW
structure KAt (H : Hp) (v : V) (bs : List (Str × Int)) (ns : List Nd) (f : Nat) (ws : List (Option Nat)) (b n : Addr) : Prop where
  ex : ∃ a ub un, v = .ref a ∧ H a = some (.tup [.ref b, .ref n, .int (f : Nat)]) ∧ H b = some (.lst ub) ∧ Tr.Ats H (bs.map boxT) ub [] ∧ H n = some (.lst un) ∧ ∀ i : Nat, ws[i]? = some none → ∃ u, atI un (i : Nat) = some u ∧ (ns.getD i .back).tr.At H u []
end L2
namespace L2
open PySem
end L2
namespace L2
open PySem PySem.Spec PyProof.Rows
def rNeLs : R2 := fun x y H Q => ∃ t fs gs, (Tr.lst t).At H x fs ∧ (Tr.lst t).At H y gs ∧ Tr.hs t ≤ 60 ∧ Q (.bl false) H
end L2
namespace L2
open PySem PySem.Spec PyProof.Rows
noncomputable instance trDec : DecidableEq Tr := fun _ _ => Classical.propDecidable _
mutual
def Tr.In (h : Heap) : Tr → Value → Prop
  | .non, u => u = .none
  | .int z, u => ∃ t, u = .int z t
  | .str x, u => ∃ t, u = .str x t
  | .tup ts, u => ∃ a us, u = .ref a ∧ h.IsTuple a us ∧ Tr.Ins h ts us.toList
  | .lst _, _ => False
def Tr.Ins (h : Heap) : List Tr → List Value → Prop
  | [], us => us = []
  | t :: ts, us => ∃ u r, us = u :: r ∧ Tr.In h t u ∧ Tr.Ins h ts r
end
theorem Tr.Ins.len {h : Heap} : ∀ {ts : List Tr} {us : List Value}, Tr.Ins h ts us → us.length = ts.length
  | [], us, e => by simp only [Tr.Ins] at e; rw [e]; rfl
  | t :: ts, us, e => by
    simp only [Tr.Ins] at e
    obtain ⟨u, r, rfl, _, e⟩ := e
    simp [e.len]
theorem Tr.Ins.get {h : Heap} : ∀ {ts : List Tr} {us : List Value}, Tr.Ins h ts us → ∀ (j : Nat) (h1 : j < us.length) (h2 : j < ts.length), Tr.In h ts[j] us[j]
  | [], us, e, j, h1, h2 => absurd h2 (Nat.not_lt_zero _)
  | t :: ts, us, e, j, h1, h2 => by
    simp only [Tr.Ins] at e
    obtain ⟨u, r, rfl, e1, e⟩ := e
    cases j with
    | zero => exact e1
    | succ j => exact e.get j (by simpa using h1) (by simpa using h2)
mutual
theorem Tr.In.keep {h h' : Heap} {d : Addr} (k : ∀ a us, a ≠ d → h.IsTuple a us → h'.IsTuple a us) (nd : ∀ us, ¬ h.IsTuple d us) : ∀ {t : Tr} {u : Value}, Tr.In h t u → Tr.In h' t u
  | .non, u, e => e
  | .int z, u, e => e
  | .str x, u, e => e
  | .lst _, u, e => e
  | .tup ts, u, e => by
    simp only [Tr.In] at e ⊢
    obtain ⟨a, us, e1, e2, e3⟩ := e
    exact ⟨a, us, e1, k a us (fun z => nd us (z ▸ e2)) e2, Tr.Ins.keep k nd e3⟩
theorem Tr.Ins.keep {h h' : Heap} {d : Addr} (k : ∀ a us, a ≠ d → h.IsTuple a us → h'.IsTuple a us) (nd : ∀ us, ¬ h.IsTuple d us) : ∀ {ts : List Tr} {us : List Value}, Tr.Ins h ts us → Tr.Ins h' ts us
  | [], us, e => e
  | t :: ts, us, e => by
    simp only [Tr.Ins] at e ⊢
    obtain ⟨u, r, e1, e2, e3⟩ := e
    exact ⟨u, r, e1, e2.keep k nd, Tr.Ins.keep k nd e3⟩
end
theorem isTuple_inj {h : Heap} {a : Addr} {us vs : Array Value} (x : h.IsTuple a us) (y : h.IsTuple a vs) : us = vs := by
  obtain ⟨o, e, _, n, d⟩ := x
  obtain ⟨o', e', _, n', d'⟩ := y
  rw [e] at e'; cases e'
  rw [d] at d'
  injection d' with d1 _
mutual
theorem Tr.In.inj {h : Heap} : ∀ {t r : Tr} {u : Value}, Tr.In h t u → Tr.In h r u → t = r
  | .non, r, u, e, f => by
    simp only [Tr.In] at e
    subst e
    cases r <;> simp [Tr.In] at f ⊢
  | .int z, r, u, e, f => by
    simp only [Tr.In] at e
    obtain ⟨t, rfl⟩ := e
    cases r <;> simp [Tr.In] at f ⊢
    exact f
  | .str x, r, u, e, f => by
    simp only [Tr.In] at e
    obtain ⟨t, rfl⟩ := e
    cases r <;> simp [Tr.In] at f ⊢
    exact f
  | .lst _, r, u, e, f => e.elim
  | .tup ts, .tup rs, u, e, f => by
    simp only [Tr.In] at e f
    obtain ⟨a, us, rfl, e2, e3⟩ := e
    obtain ⟨b, vs, hb, f2, f3⟩ := f
    cases hb
    cases isTuple_inj e2 f2
    rw [Tr.Ins.inj e3 f3]
  | .tup ts, .non, u, e, f => by
    simp only [Tr.In] at e f
    obtain ⟨a, us, rfl, e2, e3⟩ := e
    cases f
  | .tup ts, .int _, u, e, f => by
    simp only [Tr.In] at e f
    obtain ⟨a, us, rfl, e2, e3⟩ := e
    obtain ⟨_, f⟩ := f
    cases f
  | .tup ts, .str _, u, e, f => by
    simp only [Tr.In] at e f
    obtain ⟨a, us, rfl, e2, e3⟩ := e
    obtain ⟨_, f⟩ := f
    cases f
  | .tup ts, .lst _, u, e, f => f.elim
theorem Tr.Ins.inj {h : Heap} : ∀ {ts rs : List Tr} {us : List Value}, Tr.Ins h ts us → Tr.Ins h rs us → ts = rs
  | [], rs, us, e, f => by
    simp only [Tr.Ins] at e
    subst e
    cases rs with
    | nil => rfl
    | cons r rs => simp [Tr.Ins] at f
  | t :: ts, rs, us, e, f => by
    simp only [Tr.Ins] at e
    obtain ⟨u, r, rfl, e1, e2⟩ := e
    cases rs with
    | nil => simp [Tr.Ins] at f
    | cons q qs =>
      simp only [Tr.Ins] at f
      obtain ⟨u', r', hh, f1, f2⟩ := f
      cases hh
      rw [e1.inj f1, Tr.Ins.inj e2 f2]
end
theorem at_no_lst {H : Hp} {ts : List Tr} {v : V} {h : (Tr.lst ts).At H v []} : False := by
  simp only [Tr.At] at h
  obtain ⟨a, vs, _, rfl, e1, c1, e⟩ := h
  simp at e
section
variable {X : Cx} {pins : List (Addr × Obj)} {σ : St} {H : Hp} {s : Shared}
mutual
theorem Tr.At.isIn (I : Inv X pins σ H s) : ∀ {t : Tr} {v : V} {u : Value}, t.At H v [] → RelV v u → Tr.In s.heap t u
  | .non, v, u, h, r => by
    obtain ⟨rfl, -⟩ := (by simpa only [Tr.At] using h)
    cases r
    exact rfl
  | .int z, v, u, h, r => by
    obtain ⟨rfl, -⟩ := (by simpa only [Tr.At] using h)
    obtain ⟨t, rfl⟩ := r
    exact ⟨t, rfl⟩
  | .str z, v, u, h, r => by
    obtain ⟨rfl, -⟩ := (by simpa only [Tr.At] using h)
    obtain ⟨t, rfl⟩ := r
    exact ⟨t, rfl⟩
  | .lst _, v, u, h, r => (at_no_lst (h := h)).elim
  | .tup ts, v, u, h, r => by
    simp only [Tr.At] at h
    obtain ⟨a, vs, rfl, e1, c1⟩ := h
    cases r
    obtain ⟨is1, q1, p1, _⟩ := I.tuple (SqT.of e1)
    simp only [Tr.In]
    exact ⟨a, is1.toArray, rfl, p1, by simpa using Tr.Ats.isIns I c1 q1⟩
theorem Tr.Ats.isIns (I : Inv X pins σ H s) : ∀ {ts : List Tr} {vs : List V} {us : List Value}, Tr.Ats H ts vs [] → Vals vs us → Tr.Ins s.heap ts us
  | [], vs, us, c, q => by
    simp only [Tr.Ats] at c
    obtain ⟨rfl, -⟩ := c
    cases q
    exact rfl
  | t :: ts, vs, us, c, q => by
    simp only [Tr.Ats] at c
    obtain ⟨v, vs, f, g, rfl, e, a1, b1⟩ := c
    have hf : f = [] ∧ g = [] := by simpa using e.symm
    obtain ⟨rfl, rfl⟩ := hf
    cases q with
    | cons r1 q1 =>
    simp only [Tr.Ins]
    exact ⟨_, _, rfl, a1.isIn I r1, b1.isIns I q1⟩
end
end
theorem all_range {n : Nat} {e : Nat → Bool} : (List.range n).all e = true ↔ ∀ j, j < n → e j = true := by simp [List.all_eq_true]
theorem trs_eq {ts rs : List Tr} : ((List.range (min ts.length rs.length)).all (fun j => decide (ts.getD j .non = rs.getD j .non)) && ts.length == rs.length) = decide (ts = rs) := by
  rw [Bool.eq_iff_iff, Bool.and_eq_true, all_range, decide_eq_true_iff, beq_iff_eq]
  constructor
  · rintro ⟨h1, h2⟩
    refine List.ext_getElem h2 fun j h3 h4 => ?_
    have := of_decide_eq_true (h1 j (by omega))
    simpa [h3, h4] using this
  · rintro rfl
    exact ⟨fun j _ => decide_eq_true rfl, rfl⟩
section
variable {s : Shared}
mutual
theorem Tr.In.eqAt : ∀ {t r : Tr} {A : Around} {u z : Value}, Tr.In s.heap t u → Tr.In s.heap r z → A.units + t.h + r.h < cLine → SeqAt.EqAt A s u z (decide (t = r))
  | .non, r, A, u, z, h1, h2, hu => by
    simp only [Tr.In] at h1
    subst h1
    cases r with
    | non =>
      simp only [Tr.In] at h2
      subst h2
      rw [decide_eq_true rfl]
      exact SeqAt.EqAt.same _
    | int i =>
      obtain ⟨t2, rfl⟩ := h2
      rw [decide_eq_false (by simp)]
      exact SeqAt.EqAt.none_int _ _
    | str i =>
      obtain ⟨t2, rfl⟩ := h2
      rw [decide_eq_false (by simp)]
      exact SeqAt.EqAt.none_str _ _
    | tup rs =>
      simp only [Tr.In] at h2
      obtain ⟨a, us, rfl, p, _⟩ := h2
      rw [decide_eq_false (by simp)]
      exact SeqAt.EqAt.none_tuple p (by omega)
    | lst rs => exact h2.elim
  | .int i, r, A, u, z, h1, h2, hu => by
    obtain ⟨t1, rfl⟩ := h1
    cases r with
    | non =>
      simp only [Tr.In] at h2
      subst h2
      rw [decide_eq_false (by simp)]
      exact SeqAt.EqAt.int_none _ _
    | int j =>
      obtain ⟨t2, rfl⟩ := h2
      have := SeqAt.EqAt.int_int (A := A) (s := s) i t1 j t2
      rw [show (i == j) = decide (Tr.int i = Tr.int j) from Bool.eq_iff_iff.mpr (by simp)] at this
      exact this
    | str j =>
      obtain ⟨t2, rfl⟩ := h2
      rw [decide_eq_false (by simp)]
      exact SeqAt.EqAt.int_str _ _ _ _
    | tup rs =>
      simp only [Tr.In] at h2
      obtain ⟨a, us, rfl, p, _⟩ := h2
      rw [decide_eq_false (by simp)]
      exact SeqAt.EqAt.int_tuple _ _ p (by omega)
    | lst rs => exact h2.elim
  | .str i, r, A, u, z, h1, h2, hu => by
    obtain ⟨t1, rfl⟩ := h1
    cases r with
    | non =>
      simp only [Tr.In] at h2
      subst h2
      rw [decide_eq_false (by simp)]
      exact SeqAt.EqAt.str_none _ _
    | int j =>
      obtain ⟨t2, rfl⟩ := h2
      rw [decide_eq_false (by simp)]
      exact SeqAt.EqAt.str_int _ _ _ _
    | str j =>
      obtain ⟨t2, rfl⟩ := h2
      have := SeqAt.EqAt.str_str (A := A) (s := s) i t1 j t2
      rw [show (i == j) = decide (Tr.str i = Tr.str j) from Bool.eq_iff_iff.mpr (by simp)] at this
      exact this
    | tup rs =>
      simp only [Tr.In] at h2
      obtain ⟨a, us, rfl, p, _⟩ := h2
      rw [decide_eq_false (by simp)]
      exact SeqAt.EqAt.str_tuple _ _ p (by omega)
    | lst rs => exact h2.elim
  | .lst _, r, A, u, z, h1, h2, hu => h1.elim
  | .tup ts, r, A, u, z, h1, h2, hu => by
    have h1' := h1
    simp only [Tr.In] at h1
    obtain ⟨a, us, rfl, p1, c1⟩ := h1
    cases r with
    | non =>
      simp only [Tr.In] at h2
      subst h2
      rw [decide_eq_false (by simp)]
      exact SeqAt.EqAt.tuple_none p1 (by omega)
    | int j =>
      obtain ⟨t2, rfl⟩ := h2
      rw [decide_eq_false (by simp)]
      exact SeqAt.EqAt.tuple_int _ _ p1 (by omega)
    | str j =>
      obtain ⟨t2, rfl⟩ := h2
      rw [decide_eq_false (by simp)]
      exact SeqAt.EqAt.tuple_str _ _ p1 (by omega)
    | lst rs => exact h2.elim
    | tup rs =>
      have h2' := h2
      simp only [Tr.In] at h2
      obtain ⟨b, vs, rfl, p2, c2⟩ := h2
      by_cases hab : a = b
      · subst hab
        rw [decide_eq_true (h1'.inj h2')]
        exact SeqAt.EqAt.same _
      refine SeqAt.EqAt.of_refs hab ?_
      simp only [Tr.h] at hu
      have l1 := c1.len
      have l2 := c2.len
      simp only [Array.length_toList] at l1 l2
      have := SeqAt.RcAt.tuples (A := A) (s := s) (e := fun j => decide (ts.getD j .non = rs.getD j .non)) p1 p2 (by omega) (fun j h1 h2 => by
        have := Tr.Ins.eqAts (A := A.in1) c1 c2 (by rw [in1_units]; omega) j (by simpa using h1) (by simpa using h2)
        simpa using this)
      rw [l1, l2, trs_eq] at this
      rw [show decide (Tr.tup ts = Tr.tup rs) = decide (ts = rs) from Bool.eq_iff_iff.mpr (by simp)]
      exact this
theorem Tr.Ins.eqAts : ∀ {ts rs : List Tr} {A : Around} {us zs : List Value}, Tr.Ins s.heap ts us → Tr.Ins s.heap rs zs → A.units + Tr.hs ts + Tr.hs rs < cLine →
    ∀ (j : Nat) (h1 : j < us.length) (h2 : j < zs.length), SeqAt.EqAt A s us[j] zs[j] (decide (ts.getD j .non = rs.getD j .non))
  | [], rs, A, us, zs, c1, c2, hu, j, h1, h2 => by
    simp only [Tr.Ins] at c1
    subst c1
    exact absurd h1 (by simp)
  | t :: ts, [], A, us, zs, c1, c2, hu, j, h1, h2 => by
    simp only [Tr.Ins] at c2
    subst c2
    exact absurd h2 (by simp)
  | t :: ts, r :: rs, A, us, zs, c1, c2, hu, j, h1, h2 => by
    simp only [Tr.Ins] at c1 c2
    obtain ⟨u, us, rfl, a1, b1⟩ := c1
    obtain ⟨z, zs, rfl, a2, b2⟩ := c2
    simp only [Tr.hs] at hu
    cases j with
    | zero =>
      have := a1.eqAt a2 (A := A) (by omega)
      simpa using this
    | succ j =>
      have := b1.eqAts b2 (A := A) (by omega) j (by simpa using h1) (by simpa using h2)
      simpa using this
end
end
mutual
def Tr.hash (P : Params) : Tr → Int
  | .non => PySem.W.hashW P .none
  | .int z => PySem.W.hashW P (.int z)
  | .str x => PySem.W.hashW P (.str x)
  | .tup ts => reduceHash (Builtin.Tuple.tupleHashOf (Tr.hashes P ts))
  | .lst _ => 0
def Tr.hashes (P : Params) : List Tr → List Int
  | [] => []
  | t :: ts => Tr.hash P t :: Tr.hashes P ts
end
section
variable {prog : Program} {w : World} {E : Value → Shared → Prop}
mutual
theorem Tr.In.pyHash : ∀ {t : Tr} {A : Around} {s : Shared} {u : Value} {Q : Int → Shared → Prop}, Tr.In s.heap t u → A.units + t.h < cLine → (∀ n, Q (t.hash w.params) { s with toks := n }) → wpAny (model prog w) A (pyHash u) Q E s
  | .non, A, s, u, Q, e, hu, h => by
    simp only [Tr.In] at e
    subst e
    exact PySem.W.pyHash_laid .none _ A s Q rfl .none (by simp only [PySem.W.WData.depth]; omega) h
  | .int z, A, s, u, Q, e, hu, h => by
    obtain ⟨t, rfl⟩ := e
    exact PySem.W.pyHash_laid (.int z) _ A s Q rfl (.int z t) (by simp only [PySem.W.WData.depth]; omega) h
  | .str z, A, s, u, Q, e, hu, h => by
    obtain ⟨t, rfl⟩ := e
    exact PySem.W.pyHash_laid (.str z) _ A s Q rfl (.str z t) (by simp only [PySem.W.WData.depth]; omega) h
  | .lst _, A, s, u, Q, e, hu, h => e.elim
  | .tup ts, A, s, u, Q, e, hu, h => by
    simp only [Tr.In] at e
    obtain ⟨a, us, rfl, ⟨o, p1, p2, n, p3⟩, c⟩ := e
    simp only [Tr.h] at hu
    refine PySem.W.pyHash_slot (T := "tuple") ⟨o, p1, p2⟩ F.slot_tuple_hash F.entry_tuple_hash (F.args_tuple_hash_1 _) (beq_builtin_none _) (.inr (by omega)) ?_
    show wpAny _ A.in1 (Builtin.Tuple.tupleItemsOf (.ref a) >>= _) _ _ s
    refine wpAny_bind (wpAny_tupleItemsOf p1 p3 (wpAny_bind ?_))
    rw [← Array.forIn_toList]
    refine Tr.Ins.pyHashes (b := #[]) c (by rw [in1_units]; omega) fun tk b hb => ?_
    have hb' : b.toList = Tr.hashes w.params ts := by simpa using hb
    show wpAny _ A.in1 (retInt (Builtin.Tuple.tupleHashOf b.toList)) _ _ _
    rw [hb']
    exact wpAny_bind (wpAny_mkInt (wpAny_pure ⟨_, _, rfl, h (_)⟩))
theorem Tr.Ins.pyHashes : ∀ {ts : List Tr} {A : Around} {s : Shared} {us : List Value} {b : Array Int} {Q : Array Int → Shared → Prop}, Tr.Ins s.heap ts us → A.units + Tr.hs ts < cLine →
    (∀ n b', b'.toList = b.toList ++ Tr.hashes w.params ts → Q b' { s with toks := n }) →
    wpAny (model prog w) A (forIn us b fun x r => do let h ← pyHash x; pure PUnit.unit; pure (ForInStep.yield (r.push h))) Q E s
  | [], A, s, us, b, Q, e, hu, h => by
    simp only [Tr.Ins] at e
    subst e
    exact wpAny_pure (h s.toks b (by simp [Tr.hashes]))
  | t :: ts, A, s, us, b, Q, e, hu, h => by
    simp only [Tr.Ins] at e
    obtain ⟨u, us, rfl, a1, b1⟩ := e
    simp only [Tr.hs] at hu
    rw [List.forIn_cons]
    refine wpAny_bind (wpAny_bind (a1.pyHash (by omega) fun tk => wpAny_bind (wpAny_pure (wpAny_pure ?_))))
    exact b1.pyHashes (s := { s with toks := tk }) (by omega) fun n b' hb => h n b' (by simp [hb, Tr.hashes])
end
end
end L2
namespace L2
open PySem PySem.Spec PyProof.Rows
section
variable {prog : Program} {w : World} {E : Value → Shared → Prop}
mutual
theorem Tr.In.quiet : ∀ {t : Tr} {A : Around} {s : Shared} {u : Value} {Q : Bool → Shared → Prop} {n : Nat}, Tr.In s.heap t u → t.h ≤ n → Q true s → wpAny (model prog w) A (eqIsQuiet n u) Q E s
  | .non, A, s, u, Q, n, e, hn, h => by
    simp only [Tr.In] at e
    subst e
    rw [eqIsQuiet_byValue n (v := .none) rfl]
    exact wpAny_pure h
  | .int z, A, s, u, Q, n, e, hn, h => by
    obtain ⟨t, rfl⟩ := e
    rw [eqIsQuiet_byValue n (v := .int z t) rfl]
    exact wpAny_pure h
  | .str z, A, s, u, Q, n, e, hn, h => by
    obtain ⟨t, rfl⟩ := e
    rw [eqIsQuiet_byValue n (v := .str z t) rfl]
    exact wpAny_pure h
  | .lst _, A, s, u, Q, n, e, hn, h => e.elim
  | .tup ts, A, s, u, Q, n, e, hn, h => by
    simp only [Tr.In] at e
    obtain ⟨a, us, rfl, ⟨o, p1, p2, m, p3⟩, c⟩ := e
    simp only [Tr.h] at hn
    obtain ⟨n, rfl⟩ : ∃ k, n = k + 1 := ⟨n - 1, by omega⟩
    have hT : s.TypeIs (.ref a) "tuple" := ⟨o, p1, p2⟩
    unfold eqIsQuiet
    refine wpAny_bind (wpAny_specialOf hT (F.slot_tuple_eq.lookup) ?_)
    show wpAny _ A (isInstance (.ref a) (.type "tuple") >>= _) _ _ s
    refine wpAny_bind (wpAny_isInstance hT (isSubtype_tuple_tuple) ?_)
    simp only [Bool.false_eq_true, Bool.not_true, if_false]
    refine wpAny_bind (wpAny_seqItems p1 p3 (wpAny_bind ?_))
    show wpAny _ _ (forIn us _ _) _ _ s
    rw [← Array.forIn_toList]
    refine wpAny_forIn_list _ (fun rest r s' => r.1 = none ∧ s' = s ∧ ∃ ts', Tr.Ins s.heap ts' rest ∧ ∀ t ∈ ts', ∃ k, ∃ hk : k < ts.length, t = ts[k]) _ ?_ ?_ _ _ ⟨rfl, rfl, ts, c, fun t ht => by
      obtain ⟨k, hk, e⟩ := List.mem_iff_getElem.mp ht
      exact ⟨k, hk, e.symm⟩⟩
    · rintro v rest r s' ⟨hr, rfl, ts', c', hm⟩
      cases ts' with
      | nil => simp [Tr.Ins] at c'
      | cons t ts' =>
        simp only [Tr.Ins] at c'
        obtain ⟨u', r', hh, a1, b1⟩ := c'
        cases hh
        obtain ⟨k, hk, rfl⟩ := hm t List.mem_cons_self
        refine wpAny_bind (Tr.Ins.quietAt (n := n) c k hk a1 (by omega) ?_)
        simp only [Bool.false_eq_true, Bool.not_true, if_false]
        exact wpAny_pure ⟨rfl, rfl, ts', b1, fun t' ht' => hm t' (List.mem_cons_of_mem _ ht')⟩
    · rintro ⟨r1, r2⟩ s' ⟨hr, rfl, _⟩
      simp only at hr
      subst hr
      exact wpAny_pure h
theorem Tr.Ins.quietAt : ∀ {ts : List Tr} {A : Around} {s : Shared} {us : List Value} {u : Value} {Q : Bool → Shared → Prop} {n : Nat}, Tr.Ins s.heap ts us → ∀ (k : Nat) (hk : k < ts.length), Tr.In s.heap ts[k] u → Tr.hs ts ≤ n → Q true s →
    wpAny (model prog w) A (eqIsQuiet n u) Q E s
  | [], A, s, us, u, Q, n, e, k, hk, a1, hn, h => absurd hk (Nat.not_lt_zero _)
  | t :: ts, A, s, us, u, Q, n, e, k, hk, a1, hn, h => by
    simp only [Tr.Ins] at e
    obtain ⟨u', us, rfl, a2, b2⟩ := e
    simp only [Tr.hs] at hn
    cases k with
    | zero => exact Tr.In.quiet (t := t) a1 (by omega) h
    | succ k => exact Tr.Ins.quietAt b2 k (by simpa using hk) a1 (by omega) h
end
end
structure Ents (P : Params) (h : Heap) (es : Array DictEntry) (ts : List Tr) : Prop where
  len : es.size = ts.length
  at_ : ∀ (j : Nat) (e : DictEntry), es[j]? = some e → ∃ t : Tr, ts[j]? = some t ∧ e.hash = t.hash P ∧ Tr.In h t e.key ∧ t.h ≤ 8
  nd : ts.Nodup
theorem Ents.of {P : Params} {h : Heap} {es : Array DictEntry} {ts : List Tr} (x : Ents P h es ts) {j : Nat} {t : Tr} (e : ts[j]? = some t) : ∃ en, es[j]? = some en ∧ en.hash = t.hash P ∧ Tr.In h t en.key ∧ t.h ≤ 8 := by
  have hj : j < es.size := by rw [x.len]; exact (List.getElem?_eq_some_iff.mp e).1
  obtain ⟨t', e', h2⟩ := x.at_ j es[j] (Array.getElem?_eq_getElem hj)
  rw [e] at e'
  cases e'
  exact ⟨_, Array.getElem?_eq_getElem hj, h2⟩
theorem Ents.one {P : Params} {h : Heap} {es : Array DictEntry} {ts : List Tr} (x : Ents P h es ts) {i j : Nat} {t : Tr} (e : ts[i]? = some t) (f : ts[j]? = some t) : i = j := by
  obtain ⟨h1, e⟩ := List.getElem?_eq_some_iff.mp e
  obtain ⟨h2, f⟩ := List.getElem?_eq_some_iff.mp f
  have pw := List.pairwise_iff_getElem.mp x.nd
  rcases Nat.lt_trichotomy i j with h | h | h
  · exact absurd (e.trans f.symm) (pw i j h1 h2 h)
  · exact h
  · exact absurd (f.trans e.symm) (pw j i h2 h1 h)
section
variable {prog : Program} {w : World} {E : Value → Shared → Prop} {A : Around} {s : Shared} {d : Addr} {o : Obj} {es : Array DictEntry} {ep : Nat} {ts : List Tr} {t : Tr} {u : Value}
theorem mem_places {f : Nat → Option Int} {n i : Nat} {h : Int} : i ∈ placesWithHash n f h ↔ i < n ∧ f i = some h := by simp [placesWithHash, List.mem_filter]
theorem places_nd {f : Nat → Option Int} {n : Nat} {h : Int} : (placesWithHash n f h).Nodup := List.Pairwise.filter _ List.nodup_range
theorem find_tr {Q : Option Nat → Shared → Prop} (ho : s.heap.get? d = some o) (hd : o.data = .dict es ep) (x : Ents w.params s.heap es ts) (hk : Tr.In s.heap t u) (h8 : t.h ≤ 8) (hu : A.units + 16 < cLine)
    (hnone : (∀ j : Nat, ts[j]? ≠ some t) → Q none s) (hsome : ∀ j : Nat, ts[j]? = some t → Q (some j) s) : wpAny (model prog w) A (dictFind d u (t.hash w.params)) Q E s := by
  have hin : ∀ j : Nat, ts[j]? = some t → j ∈ placesWithHash es.size (fun i => es[i]?.map (·.hash)) (t.hash w.params) := fun j hj => by
    obtain ⟨en, e1, e2, _⟩ := x.of hj
    exact mem_places.mpr ⟨(Array.getElem?_eq_some_iff.mp e1).1, by rw [e1]; exact congrArg some e2⟩
  have hex : ∀ i ∈ placesWithHash es.size (fun i => es[i]?.map (·.hash)) (t.hash w.params), ∃ en t', es[i]? = some en ∧ ts[i]? = some t' ∧ en.hash = t.hash w.params ∧ Tr.In s.heap t' en.key ∧ t'.h ≤ 8 := fun i hi => by
    obtain ⟨hi, h2⟩ := mem_places.mp hi
    have e1 := Array.getElem?_eq_getElem hi
    obtain ⟨t', e2, e3, e4, e5⟩ := x.at_ i _ e1
    rw [e1] at h2
    exact ⟨_, t', e1, e2, Option.some.inj h2, e4, e5⟩
  have hnd : (placesWithHash es.size (fun i => es[i]?.map (·.hash)) (t.hash w.params)).Nodup := places_nd
  generalize hP : placesWithHash es.size (fun i => es[i]?.map (·.hash)) (t.hash w.params) = ps at hin hex hnd
  have eqa : ∀ {t' : Tr} {z : Value}, Tr.In s.heap t' z → t'.h ≤ 8 → SeqAt.EqAt A s z u (decide (t' = t)) := fun a b => a.eqAt hk (by omega)
  have plain : wpAny (model prog w) A (dictWalkPlain d u (t.hash w.params) es ps) Q E s := by
    unfold dictWalkPlain
    refine wpAny_bind ?_
    refine wpAny_forIn_list _ (fun rest b s' => s' = s ∧ b = (none, ()) ∧ (∀ i ∈ rest, i ∈ ps) ∧ ∀ j : Nat, ts[j]? = some t → j ∈ rest) _ ?_ ?_ _ _ ⟨rfl, rfl, fun _ z => z, hin⟩
    · rintro i rest b s' ⟨rfl, rfl, hr, hj⟩
      obtain ⟨en, t', e1, e2, e3, e4, e5⟩ := hex i (hr i List.mem_cons_self)
      rw [e1]
      dsimp only
      rw [if_pos (by rw [e3]; exact beq_self_eq_true _)]
      refine wpAny_bind (wpAny_dictEpoch ho hd (wpAny_bind (eqa e4 e5 _ _ _ _ (wpAny_bind (wpAny_dictEpoch ho hd ?_)))))
      show wpAny _ A (if (ep != ep) = true then _ else _) _ E _
      rw [if_neg (by simp)]
      by_cases hkk : t' = t
      · subst hkk
        rw [decide_eq_true rfl]
        exact wpAny_bind (wpAny_rule (wpAny_pure (wpAny_pure (hsome i e2))))
      · rw [decide_eq_false hkk]
        refine wpAny_bind (wpAny_rule (wpAny_pure ⟨rfl, rfl, fun i hi => hr i (List.mem_cons_of_mem _ hi), fun j h2 => ?_⟩))
        rcases List.mem_cons.mp (hj j h2) with rfl | h3
        · rw [e2] at h2
          exact absurd (Option.some.inj h2) hkk
        · exact h3
    · rintro b s' ⟨rfl, rfl, _, hj⟩
      exact wpAny_pure (hnone fun j h2 => absurd (hj j h2) (by simp))
  have hany : ∀ a, u = .ref a → ¬ (es.any fun e => e.key == u && e.hash != t.hash w.params) = true := by
    rintro a rfl
    rw [← Array.any_toList, List.any_eq_true]
    rintro ⟨e, hin', hc⟩
    obtain ⟨j, hj, rfl⟩ := Array.mem_iff_getElem.mp (Array.mem_toList_iff.mp hin')
    obtain ⟨t', _, f2, f3, _⟩ := x.at_ j _ (Array.getElem?_eq_getElem hj)
    simp only [Bool.and_eq_true, beq_iff_eq, bne_iff_ne, ne_eq] at hc
    rw [hc.1] at f3
    exact hc.2 (by rw [f2, f3.inj hk])
  have hst : ∀ v ∈ ps.filterMap (fun i => es[i]?.map (·.key)), ∃ t', Tr.In s.heap t' v ∧ t'.h ≤ 8 := by
    intro v hv
    obtain ⟨i, hi, hv⟩ := List.mem_filterMap.mp hv
    obtain ⟨en, t', e1, _, _, e4, e5⟩ := hex i hi
    rw [e1] at hv
    cases hv
    exact ⟨t', e4, e5⟩
  have tell : ∀ {Q : Bool → Shared → Prop}, Q false s → wpAny (model prog w) A (tableMayTell u (ps.filterMap fun i => es[i]?.map (·.key))) Q E s := by
    intro Q q
    unfold tableMayTell
    split
    · exact wpAny_pure q
    · refine wpAny_bind (hk.quiet h8 ?_)
      simp only [Bool.false_eq_true, Bool.not_true, if_false]
      refine wpAny_bind (wpAny_forIn_list _ (fun rest r s' => s' = s ∧ r = (none, ()) ∧ ∀ v ∈ rest, ∃ t', Tr.In s.heap t' v ∧ t'.h ≤ 8) _ ?_ ?_ _ _ ⟨rfl, rfl, hst⟩)
      · rintro v rest r s' ⟨rfl, rfl, hr⟩
        obtain ⟨t', b1, b2⟩ := hr v List.mem_cons_self
        refine wpAny_bind (b1.quiet b2 ?_)
        simp only [Bool.false_eq_true, Bool.not_true, if_false]
        exact wpAny_pure ⟨rfl, rfl, fun z hz => hr z (List.mem_cons_of_mem _ hz)⟩
      · rintro r s' ⟨rfl, rfl, _⟩
        exact wpAny_pure q
  unfold dictFind
  try (with_reducible refine wpAny_holding ?_)
  refine wpAny_bind (wpAny_dictEntries ho (hd) ?_)
  dsimp only
  rw [hP]
  have gone : ∀ j : Nat, ts[j]? = some t → ∀ (i : Nat) t', ts[i]? = some t' → t' = t → i = j := fun j hj i t' hi e => x.one (e ▸ hi) hj
  generalize hS : ps.filterMap (fun i => es[i]?.map (·.key)) = st at tell
  clear hst
  split
  · rename_i y tk
    by_cases hx : (es.all fun e => isExactStrKey e.key) = true
    · rw [if_pos hx]
      have ht : t = .str y := hk.inj (r := .str y) ⟨tk, rfl⟩
      subst ht
      have hstr : ∀ (j : Nat) (hj : j < es.size), es[j].key.isStr y = decide (ts[j]? = some (.str y)) := fun j hj => by
        obtain ⟨t', f1, f2, f3, _⟩ := x.at_ j _ (Array.getElem?_eq_getElem hj)
        have hx' := Array.all_eq_true.mp hx j hj
        rw [f1]
        cases hq : es[j].key with
        | str z tz =>
          rw [hq] at f3
          obtain rfl : t' = .str z := f3.inj (r := .str z) ⟨tz, rfl⟩
          show (z == y) = _
          exact Bool.eq_iff_iff.mpr (by simp)
        | _ => rw [hq] at hx'; cases hx'
      unfold foundByValue
      cases hf : es.findIdx? (fun e => e.key.isStr y) with
      | none =>
        refine wpAny_pure (hnone fun j hj => ?_)
        obtain ⟨en, g1, _⟩ := x.of hj
        obtain ⟨hl, _⟩ := Array.getElem?_eq_some_iff.mp g1
        have := Array.findIdx?_eq_none_iff.mp hf es[j] (Array.getElem_mem hl)
        rw [hstr j hl, decide_eq_true hj] at this
        cases this
      | some i =>
        obtain ⟨hlt, hi, _⟩ := Array.findIdx?_eq_some_iff_getElem.mp hf
        rw [hstr i hlt] at hi
        have hi := of_decide_eq_true hi
        obtain ⟨t', f1, f2, f3, f4⟩ := x.at_ i _ (Array.getElem?_eq_getElem hlt)
        rw [hi] at f1
        cases f1
        simp only [Array.getElem?_eq_getElem hlt]
        refine wpAny_bind (wpAny_dictEpoch ho hd (wpAny_bind (eqa f3 f4 _ _ _ _ (wpAny_bind (wpAny_dictEpoch ho hd ?_)))))
        show wpAny _ A (if (ep != ep) = true then _ else _) _ E _
        rw [if_neg (by simp), decide_eq_true rfl]
        exact wpAny_bind (wpAny_rule (wpAny_pure (hsome i hi)))
    · rw [if_neg hx]
      by_cases hall : (Value.str y tk :: st).all carriedByValue = true
      · rw [if_pos hall]; exact plain
      · rw [if_neg hall]
        dsimp only
        by_cases hone : (st == [Value.str y tk]) = true
        · rw [if_pos hone]
          refine wpAny_bind ((wpAny_pure) ?_)
          rw [if_neg (by simp)]
          refine wpAny_bind (wpAny_forIn_list _ (fun rest b s' => s' = s ∧ rest.Nodup ∧ ∃ hit : Option Nat, b = (none, hit) ∧ (∀ i ∈ rest, i ∈ ps) ∧
           ((hit = none ∧ ∀ j : Nat, ts[j]? = some t → j ∈ rest) ∨ ∃ j : Nat, hit = some j ∧ ts[j]? = some t ∧ j ∉ rest)) _ ?_ ?_ _ _ ⟨rfl, hnd, none, rfl, fun _ z => z, .inl ⟨rfl, hin⟩⟩)
          · rintro i rest b s' ⟨rfl, hnd', hit, rfl, hr, hH⟩
            have hni : i ∉ rest := (List.nodup_cons.mp hnd').1
            have hnr : rest.Nodup := (List.nodup_cons.mp hnd').2
            have hr' : ∀ j ∈ rest, j ∈ ps := fun j hj => hr j (List.mem_cons_of_mem _ hj)
            obtain ⟨en, t', e1, e2, e3, e4, e5⟩ := hex i (hr i List.mem_cons_self)
            rw [e1]
            dsimp only
            rw [if_pos (by rw [e3]; exact beq_self_eq_true _)]
            refine wpAny_bind (wpAny_dictEpoch ho hd (wpAny_bind (eqa e4 e5 _ _ _ _ (wpAny_bind (wpAny_dictEpoch ho hd ?_)))))
            show wpAny _ A (if (ep != ep) = true then _ else _) _ E _
            rw [if_neg (by simp)]
            by_cases hkk : t' = t
            · subst hkk
              rw [decide_eq_true rfl]
              rcases hH with ⟨rfl, hj⟩ | ⟨j, rfl, hj, hjr⟩
              · rw [if_pos rfl]
                simp only [Bool.false_eq_true, Option.isSome_none, if_false]
                refine wpAny_bind ((wpAny_rule) ?_)
                split
                · exact wpAny_pure (wpAny_pure (hsome i e2))
                · exact wpAny_pure ⟨rfl, hnr, some i, rfl, hr', .inr ⟨i, rfl, e2, hni⟩⟩
              · exact absurd (x.one e2 hj ▸ List.mem_cons_self) hjr
            · rw [decide_eq_false hkk]
              rw [if_neg (by simp)]
              refine wpAny_bind ((wpAny_rule) ?_)
              rw [if_neg (by simp)]
              refine wpAny_pure ⟨rfl, hnr, hit, rfl, hr', ?_⟩
              rcases hH with ⟨rfl, hj⟩ | ⟨j, rfl, hj, hjr⟩
              · refine .inl ⟨rfl, fun j h2 => ?_⟩
                rcases List.mem_cons.mp (hj j h2) with rfl | h3
                · rw [e2] at h2
                  exact absurd (Option.some.inj h2) hkk
                · exact h3
              · exact .inr ⟨j, rfl, hj, fun z => hjr (List.mem_cons_of_mem _ z)⟩
          · rintro b s' ⟨rfl, _, hit, rfl, _, hH⟩
            rcases hH with ⟨rfl, hj⟩ | ⟨j, rfl, hj, _⟩
            · exact wpAny_pure (hnone fun j h2 => absurd (hj j h2) (by simp))
            · exact wpAny_pure (hsome j hj)
        · rw [if_neg hone]
          refine wpAny_bind (tell ?_)
          rw [if_neg (by simp)]
          refine wpAny_bind (wpAny_forIn_list _ (fun rest b s' => s' = s ∧ rest.Nodup ∧ ∃ hit : Option Nat, b = (none, hit) ∧ (∀ i ∈ rest, i ∈ ps) ∧
           ((hit = none ∧ ∀ j : Nat, ts[j]? = some t → j ∈ rest) ∨ ∃ j : Nat, hit = some j ∧ ts[j]? = some t ∧ j ∉ rest)) _ ?_ ?_ _ _ ⟨rfl, hnd, none, rfl, fun _ z => z, .inl ⟨rfl, hin⟩⟩)
          · rintro i rest b s' ⟨rfl, hnd', hit, rfl, hr, hH⟩
            have hni : i ∉ rest := (List.nodup_cons.mp hnd').1
            have hnr : rest.Nodup := (List.nodup_cons.mp hnd').2
            have hr' : ∀ j ∈ rest, j ∈ ps := fun j hj => hr j (List.mem_cons_of_mem _ hj)
            obtain ⟨en, t', e1, e2, e3, e4, e5⟩ := hex i (hr i List.mem_cons_self)
            rw [e1]
            dsimp only
            rw [if_pos (by rw [e3]; exact beq_self_eq_true _)]
            refine wpAny_bind (wpAny_dictEpoch ho hd (wpAny_bind (eqa e4 e5 _ _ _ _ (wpAny_bind (wpAny_dictEpoch ho hd ?_)))))
            show wpAny _ A (if (ep != ep) = true then _ else _) _ E _
            rw [if_neg (by simp)]
            by_cases hkk : t' = t
            · subst hkk
              rw [decide_eq_true rfl]
              rcases hH with ⟨rfl, hj⟩ | ⟨j, rfl, hj, hjr⟩
              · rw [if_pos rfl]
                simp only [Bool.false_eq_true, Option.isSome_none, if_false]
                refine wpAny_bind ((wpAny_rule) ?_)
                split
                · exact wpAny_pure (wpAny_pure (hsome i e2))
                · exact wpAny_pure ⟨rfl, hnr, some i, rfl, hr', .inr ⟨i, rfl, e2, hni⟩⟩
              · exact absurd (x.one e2 hj ▸ List.mem_cons_self) hjr
            · rw [decide_eq_false hkk]
              rw [if_neg (by simp)]
              refine wpAny_bind ((wpAny_rule) ?_)
              rw [if_neg (by simp)]
              refine wpAny_pure ⟨rfl, hnr, hit, rfl, hr', ?_⟩
              rcases hH with ⟨rfl, hj⟩ | ⟨j, rfl, hj, hjr⟩
              · refine .inl ⟨rfl, fun j h2 => ?_⟩
                rcases List.mem_cons.mp (hj j h2) with rfl | h3
                · rw [e2] at h2
                  exact absurd (Option.some.inj h2) hkk
                · exact h3
              · exact .inr ⟨j, rfl, hj, fun z => hjr (List.mem_cons_of_mem _ z)⟩
          · rintro b s' ⟨rfl, _, hit, rfl, _, hH⟩
            rcases hH with ⟨rfl, hj⟩ | ⟨j, rfl, hj, _⟩
            · exact wpAny_pure (hnone fun j h2 => absurd (hj j h2) (by simp))
            · exact wpAny_pure (hsome j hj)
  · rename_i hns
    by_cases hall : (u :: st).all carriedByValue = true
    · rw [if_pos hall]; exact plain
    · rw [if_neg hall]
      split
      · rename_i a
        rw [if_neg (hany a rfl)]
        by_cases hone : (st == [Value.ref a]) = true
        · rw [if_pos hone]
          refine wpAny_bind ((wpAny_pure) ?_)
          rw [if_neg (by simp)]
          refine wpAny_bind (wpAny_forIn_list _ (fun rest b s' => s' = s ∧ rest.Nodup ∧ ∃ hit : Option Nat, b = (none, hit) ∧ (∀ i ∈ rest, i ∈ ps) ∧
           ((hit = none ∧ ∀ j : Nat, ts[j]? = some t → j ∈ rest) ∨ ∃ j : Nat, hit = some j ∧ ts[j]? = some t ∧ j ∉ rest)) _ ?_ ?_ _ _ ⟨rfl, hnd, none, rfl, fun _ z => z, .inl ⟨rfl, hin⟩⟩)
          · rintro i rest b s' ⟨rfl, hnd', hit, rfl, hr, hH⟩
            have hni : i ∉ rest := (List.nodup_cons.mp hnd').1
            have hnr : rest.Nodup := (List.nodup_cons.mp hnd').2
            have hr' : ∀ j ∈ rest, j ∈ ps := fun j hj => hr j (List.mem_cons_of_mem _ hj)
            obtain ⟨en, t', e1, e2, e3, e4, e5⟩ := hex i (hr i List.mem_cons_self)
            rw [e1]
            dsimp only
            rw [if_pos (by rw [e3]; exact beq_self_eq_true _)]
            refine wpAny_bind (wpAny_dictEpoch ho hd (wpAny_bind (eqa e4 e5 _ _ _ _ (wpAny_bind (wpAny_dictEpoch ho hd ?_)))))
            show wpAny _ A (if (ep != ep) = true then _ else _) _ E _
            rw [if_neg (by simp)]
            by_cases hkk : t' = t
            · subst hkk
              rw [decide_eq_true rfl]
              rcases hH with ⟨rfl, hj⟩ | ⟨j, rfl, hj, hjr⟩
              · rw [if_pos rfl]
                simp only [Bool.false_eq_true, Option.isSome_none, if_false]
                refine wpAny_bind ((wpAny_rule) ?_)
                split
                · exact wpAny_pure (wpAny_pure (hsome i e2))
                · exact wpAny_pure ⟨rfl, hnr, some i, rfl, hr', .inr ⟨i, rfl, e2, hni⟩⟩
              · exact absurd (x.one e2 hj ▸ List.mem_cons_self) hjr
            · rw [decide_eq_false hkk]
              rw [if_neg (by simp)]
              refine wpAny_bind ((wpAny_rule) ?_)
              rw [if_neg (by simp)]
              refine wpAny_pure ⟨rfl, hnr, hit, rfl, hr', ?_⟩
              rcases hH with ⟨rfl, hj⟩ | ⟨j, rfl, hj, hjr⟩
              · refine .inl ⟨rfl, fun j h2 => ?_⟩
                rcases List.mem_cons.mp (hj j h2) with rfl | h3
                · rw [e2] at h2
                  exact absurd (Option.some.inj h2) hkk
                · exact h3
              · exact .inr ⟨j, rfl, hj, fun z => hjr (List.mem_cons_of_mem _ z)⟩
          · rintro b s' ⟨rfl, _, hit, rfl, _, hH⟩
            rcases hH with ⟨rfl, hj⟩ | ⟨j, rfl, hj, _⟩
            · exact wpAny_pure (hnone fun j h2 => absurd (hj j h2) (by simp))
            · exact wpAny_pure (hsome j hj)
        · rw [if_neg hone]
          refine wpAny_bind (tell ?_)
          rw [if_neg (by simp)]
          refine wpAny_bind (wpAny_forIn_list _ (fun rest b s' => s' = s ∧ rest.Nodup ∧ ∃ hit : Option Nat, b = (none, hit) ∧ (∀ i ∈ rest, i ∈ ps) ∧
           ((hit = none ∧ ∀ j : Nat, ts[j]? = some t → j ∈ rest) ∨ ∃ j : Nat, hit = some j ∧ ts[j]? = some t ∧ j ∉ rest)) _ ?_ ?_ _ _ ⟨rfl, hnd, none, rfl, fun _ z => z, .inl ⟨rfl, hin⟩⟩)
          · rintro i rest b s' ⟨rfl, hnd', hit, rfl, hr, hH⟩
            have hni : i ∉ rest := (List.nodup_cons.mp hnd').1
            have hnr : rest.Nodup := (List.nodup_cons.mp hnd').2
            have hr' : ∀ j ∈ rest, j ∈ ps := fun j hj => hr j (List.mem_cons_of_mem _ hj)
            obtain ⟨en, t', e1, e2, e3, e4, e5⟩ := hex i (hr i List.mem_cons_self)
            rw [e1]
            dsimp only
            rw [if_pos (by rw [e3]; exact beq_self_eq_true _)]
            refine wpAny_bind (wpAny_dictEpoch ho hd (wpAny_bind (eqa e4 e5 _ _ _ _ (wpAny_bind (wpAny_dictEpoch ho hd ?_)))))
            show wpAny _ A (if (ep != ep) = true then _ else _) _ E _
            rw [if_neg (by simp)]
            by_cases hkk : t' = t
            · subst hkk
              rw [decide_eq_true rfl]
              rcases hH with ⟨rfl, hj⟩ | ⟨j, rfl, hj, hjr⟩
              · rw [if_pos rfl]
                simp only [Bool.false_eq_true, Option.isSome_none, if_false]
                refine wpAny_bind ((wpAny_rule) ?_)
                split
                · exact wpAny_pure (wpAny_pure (hsome i e2))
                · exact wpAny_pure ⟨rfl, hnr, some i, rfl, hr', .inr ⟨i, rfl, e2, hni⟩⟩
              · exact absurd (x.one e2 hj ▸ List.mem_cons_self) hjr
            · rw [decide_eq_false hkk]
              rw [if_neg (by simp)]
              refine wpAny_bind ((wpAny_rule) ?_)
              rw [if_neg (by simp)]
              refine wpAny_pure ⟨rfl, hnr, hit, rfl, hr', ?_⟩
              rcases hH with ⟨rfl, hj⟩ | ⟨j, rfl, hj, hjr⟩
              · refine .inl ⟨rfl, fun j h2 => ?_⟩
                rcases List.mem_cons.mp (hj j h2) with rfl | h3
                · rw [e2] at h2
                  exact absurd (Option.some.inj h2) hkk
                · exact h3
              · exact .inr ⟨j, rfl, hj, fun z => hjr (List.mem_cons_of_mem _ z)⟩
          · rintro b s' ⟨rfl, _, hit, rfl, _, hH⟩
            rcases hH with ⟨rfl, hj⟩ | ⟨j, rfl, hj, _⟩
            · exact wpAny_pure (hnone fun j h2 => absurd (hj j h2) (by simp))
            · exact wpAny_pure (hsome j hj)
      · by_cases hone : (st == [u]) = true
        · rw [if_pos hone]
          refine wpAny_bind ((wpAny_pure) ?_)
          rw [if_neg (by simp)]
          refine wpAny_bind (wpAny_forIn_list _ (fun rest b s' => s' = s ∧ rest.Nodup ∧ ∃ hit : Option Nat, b = (none, hit) ∧ (∀ i ∈ rest, i ∈ ps) ∧
           ((hit = none ∧ ∀ j : Nat, ts[j]? = some t → j ∈ rest) ∨ ∃ j : Nat, hit = some j ∧ ts[j]? = some t ∧ j ∉ rest)) _ ?_ ?_ _ _ ⟨rfl, hnd, none, rfl, fun _ z => z, .inl ⟨rfl, hin⟩⟩)
          · rintro i rest b s' ⟨rfl, hnd', hit, rfl, hr, hH⟩
            have hni : i ∉ rest := (List.nodup_cons.mp hnd').1
            have hnr : rest.Nodup := (List.nodup_cons.mp hnd').2
            have hr' : ∀ j ∈ rest, j ∈ ps := fun j hj => hr j (List.mem_cons_of_mem _ hj)
            obtain ⟨en, t', e1, e2, e3, e4, e5⟩ := hex i (hr i List.mem_cons_self)
            rw [e1]
            dsimp only
            rw [if_pos (by rw [e3]; exact beq_self_eq_true _)]
            refine wpAny_bind (wpAny_dictEpoch ho hd (wpAny_bind (eqa e4 e5 _ _ _ _ (wpAny_bind (wpAny_dictEpoch ho hd ?_)))))
            show wpAny _ A (if (ep != ep) = true then _ else _) _ E _
            rw [if_neg (by simp)]
            by_cases hkk : t' = t
            · subst hkk
              rw [decide_eq_true rfl]
              rcases hH with ⟨rfl, hj⟩ | ⟨j, rfl, hj, hjr⟩
              · rw [if_pos rfl]
                simp only [Bool.false_eq_true, Option.isSome_none, if_false]
                refine wpAny_bind ((wpAny_rule) ?_)
                split
                · exact wpAny_pure (wpAny_pure (hsome i e2))
                · exact wpAny_pure ⟨rfl, hnr, some i, rfl, hr', .inr ⟨i, rfl, e2, hni⟩⟩
              · exact absurd (x.one e2 hj ▸ List.mem_cons_self) hjr
            · rw [decide_eq_false hkk]
              rw [if_neg (by simp)]
              refine wpAny_bind ((wpAny_rule) ?_)
              rw [if_neg (by simp)]
              refine wpAny_pure ⟨rfl, hnr, hit, rfl, hr', ?_⟩
              rcases hH with ⟨rfl, hj⟩ | ⟨j, rfl, hj, hjr⟩
              · refine .inl ⟨rfl, fun j h2 => ?_⟩
                rcases List.mem_cons.mp (hj j h2) with rfl | h3
                · rw [e2] at h2
                  exact absurd (Option.some.inj h2) hkk
                · exact h3
              · exact .inr ⟨j, rfl, hj, fun z => hjr (List.mem_cons_of_mem _ z)⟩
          · rintro b s' ⟨rfl, _, hit, rfl, _, hH⟩
            rcases hH with ⟨rfl, hj⟩ | ⟨j, rfl, hj, _⟩
            · exact wpAny_pure (hnone fun j h2 => absurd (hj j h2) (by simp))
            · exact wpAny_pure (hsome j hj)
        · rw [if_neg hone]
          refine wpAny_bind (tell ?_)
          rw [if_neg (by simp)]
          refine wpAny_bind (wpAny_forIn_list _ (fun rest b s' => s' = s ∧ rest.Nodup ∧ ∃ hit : Option Nat, b = (none, hit) ∧ (∀ i ∈ rest, i ∈ ps) ∧
           ((hit = none ∧ ∀ j : Nat, ts[j]? = some t → j ∈ rest) ∨ ∃ j : Nat, hit = some j ∧ ts[j]? = some t ∧ j ∉ rest)) _ ?_ ?_ _ _ ⟨rfl, hnd, none, rfl, fun _ z => z, .inl ⟨rfl, hin⟩⟩)
          · rintro i rest b s' ⟨rfl, hnd', hit, rfl, hr, hH⟩
            have hni : i ∉ rest := (List.nodup_cons.mp hnd').1
            have hnr : rest.Nodup := (List.nodup_cons.mp hnd').2
            have hr' : ∀ j ∈ rest, j ∈ ps := fun j hj => hr j (List.mem_cons_of_mem _ hj)
            obtain ⟨en, t', e1, e2, e3, e4, e5⟩ := hex i (hr i List.mem_cons_self)
            rw [e1]
            dsimp only
            rw [if_pos (by rw [e3]; exact beq_self_eq_true _)]
            refine wpAny_bind (wpAny_dictEpoch ho hd (wpAny_bind (eqa e4 e5 _ _ _ _ (wpAny_bind (wpAny_dictEpoch ho hd ?_)))))
            show wpAny _ A (if (ep != ep) = true then _ else _) _ E _
            rw [if_neg (by simp)]
            by_cases hkk : t' = t
            · subst hkk
              rw [decide_eq_true rfl]
              rcases hH with ⟨rfl, hj⟩ | ⟨j, rfl, hj, hjr⟩
              · rw [if_pos rfl]
                simp only [Bool.false_eq_true, Option.isSome_none, if_false]
                refine wpAny_bind ((wpAny_rule) ?_)
                split
                · exact wpAny_pure (wpAny_pure (hsome i e2))
                · exact wpAny_pure ⟨rfl, hnr, some i, rfl, hr', .inr ⟨i, rfl, e2, hni⟩⟩
              · exact absurd (x.one e2 hj ▸ List.mem_cons_self) hjr
            · rw [decide_eq_false hkk]
              rw [if_neg (by simp)]
              refine wpAny_bind ((wpAny_rule) ?_)
              rw [if_neg (by simp)]
              refine wpAny_pure ⟨rfl, hnr, hit, rfl, hr', ?_⟩
              rcases hH with ⟨rfl, hj⟩ | ⟨j, rfl, hj, hjr⟩
              · refine .inl ⟨rfl, fun j h2 => ?_⟩
                rcases List.mem_cons.mp (hj j h2) with rfl | h3
                · rw [e2] at h2
                  exact absurd (Option.some.inj h2) hkk
                · exact h3
              · exact .inr ⟨j, rfl, hj, fun z => hjr (List.mem_cons_of_mem _ z)⟩
          · rintro b s' ⟨rfl, _, hit, rfl, _, hH⟩
            rcases hH with ⟨rfl, hj⟩ | ⟨j, rfl, hj, _⟩
            · exact wpAny_pure (hnone fun j h2 => absurd (hj j h2) (by simp))
            · exact wpAny_pure (hsome j hj)
end
end L2
namespace L2
open PySem PySem.Spec PyProof.Rows
structure DtR (P : Params) (m : List (Tr × V × V)) (es : Array DictEntry) : Prop where
  len : es.size = m.length
  at_ : ∀ (j : Nat) (x : Tr × V × V), m[j]? = some x → ∃ e, es[j]? = some e ∧ e.hash = x.1.hash P ∧ RelV x.2.1 e.key ∧ RelV x.2.2 e.val
def DtP (P : Params) (a : Addr) (m : List (Tr × V × V)) : Heap → Prop := fun h => m.length ≤ sizeLine ∧ (a == sysModules) = false ∧ ∃ o es ep, h.get? a = some o ∧ o.ExactDict ∧ o.data = .dict es ep ∧ DtR P m es
abbrev DtO (P : Params) (a : Addr) (m : List (Tr × V × V)) : HO := .ext (DtP P a m)
theorem DtP.one {P : Params} {a : Addr} {m : List (Tr × V × V)} (h1 h2 : Heap) (x : DtP P a m h1) (k : ∀ o, h1.get? a = some o → h2.get? a = some o) : DtP P a m h2 := by
  obtain ⟨z, y, o, es, ep, e, r⟩ := x
  exact ⟨z, y, o, es, ep, k _ e, r⟩
theorem dto_ok {Pr : Program} {w : World} {H : Hp} {h : Heap} {P : Params} {a : Addr} {m : List (Tr × V × V)} (x : DtP P a m h) : ObjOk Pr w H h a (DtO P a m) := by
  refine ⟨x, ?_, DtP.one⟩
  obtain ⟨_, _, o, _, _, e, _⟩ := x
  exact ⟨o, e⟩
def DtAt (P : Params) (H : Hp) (a : Addr) (kvs : List (Tr × V)) : Prop := ∃ m : List (Tr × V × V), m.map (fun x => (x.1, x.2.2)) = kvs ∧ H a = some (DtO P a m) ∧ (∀ x ∈ m, x.1.At H x.2.1 [] ∧ x.1.h ≤ 8) ∧ (m.map (·.1)).Nodup
noncomputable def putM (m : List (Tr × V × V)) (t : Tr) (y v : V) : List (Tr × V × V) := if t ∈ m.map (·.1) then m.map (fun x => if x.1 = t then (x.1, x.2.1, v) else x) else m ++ [(t, y, v)]
theorem putM_kvs (m : List (Tr × V × V)) (t : Tr) (y v : V) : (putM m t y v).map (fun x => (x.1, x.2.2)) = putK (m.map fun x => (x.1, x.2.2)) t v := by
  have hany : ((m.map fun x => (x.1, x.2.2)).any fun kv => decide (kv.1 = t)) = decide (t ∈ m.map (·.1)) := by
    rw [Bool.eq_iff_iff, List.any_eq_true, decide_eq_true_iff, List.mem_map]
    constructor
    · rintro ⟨p, hp, e⟩
      obtain ⟨x, hx, rfl⟩ := List.mem_map.mp hp
      exact ⟨x, hx, of_decide_eq_true e⟩
    · rintro ⟨x, hx, e⟩
      exact ⟨_, List.mem_map_of_mem hx, decide_eq_true e⟩
  unfold putM putK
  rw [hany]
  by_cases h : t ∈ m.map (·.1)
  · rw [if_pos h, if_pos (decide_eq_true h), List.map_map, List.map_map]
    refine List.map_congr_left fun x _ => ?_
    simp only [Function.comp]
    split <;> rfl
  · rw [if_neg h, if_neg (by rw [decide_eq_false h]; exact Bool.false_ne_true), List.map_append]
    rfl
theorem putM_nd {m : List (Tr × V × V)} (t : Tr) (y v : V) (h : (m.map (·.1)).Nodup) : ((putM m t y v).map (·.1)).Nodup := by
  unfold putM
  by_cases ht : t ∈ m.map (·.1)
  · rw [if_pos ht, List.map_map]
    rw [show m.map ((·.1) ∘ fun x => if x.1 = t then (x.1, x.2.1, v) else x) = m.map (·.1) from List.map_congr_left fun x _ => by simp only [Function.comp]; split <;> rfl]
    exact h
  · rw [if_neg ht, List.map_append]
    exact nd_snoc h ht
theorem putM_all {m : List (Tr × V × V)} {t : Tr} {y v : V} {p : Tr → V → Prop} (h : ∀ x ∈ m, p x.1 x.2.1) (hy : p t y) : ∀ x ∈ putM m t y v, p x.1 x.2.1 := by
  intro x hx
  unfold putM at hx
  by_cases ht : t ∈ m.map (·.1)
  · rw [if_pos ht] at hx
    obtain ⟨z, hz, rfl⟩ := List.mem_map.mp hx
    split <;> exact h z hz
  · rw [if_neg ht] at hx
    rcases List.mem_append.mp hx with hx | hx
    · exact h x hx
    · rw [List.mem_singleton.mp hx]; exact hy
theorem putM_len (m : List (Tr × V × V)) (t : Tr) (y v : V) : (putM m t y v).length ≤ m.length + 1 := by
  unfold putM
  split <;> simp
theorem dt_same {P : Params} {H H' : Hp} {a : Addr} {kvs : List (Tr × V)} (x : DtAt P H a kvs) (s : Same H H') : DtAt P H' a kvs := by
  obtain ⟨m, e1, e2, e3, e4⟩ := x
  exact ⟨m, e1, s _ _ e2, fun x hx => ⟨(e3 x hx).1.mono (s.keep _), (e3 x hx).2⟩, e4⟩
def TK (H : Hp) (t : Tr) (y : V) : Prop := t.At H y [] ∧ t.h ≤ 8
theorem valV_get {m : List (Tr × V × V)} (hn : (m.map (·.1)).Nodup) {j : Nat} {x : Tr × V × V} (e : m[j]? = some x) : valV (m.map fun x => (x.1, x.2.2)) x.1 = some x.2.2 := by
  induction m generalizing j with
  | nil => simp at e
  | cons z m ih =>
    rw [List.map_cons, List.nodup_cons] at hn
    cases j with
    | zero =>
      obtain rfl : z = x := by simpa using e
      exact valV_pos rfl
    | succ j =>
      have e' : m[j]? = some x := by simpa using e
      rw [List.map_cons, valV_neg (fun q => hn.1 (by
        show z.1 ∈ _
        rw [show z.1 = x.1 from q]
        exact List.mem_map_of_mem (List.mem_of_getElem? e')))]
      exact ih hn.2 e'
theorem valV_none {m : List (Tr × V × V)} {t : Tr} (h : ∀ j : Nat, (m.map (·.1))[j]? ≠ some t) : valV (m.map fun x => (x.1, x.2.2)) t = none ∧ t ∉ m.map (·.1) := by
  have hn : t ∉ m.map (·.1) := fun z => by
    obtain ⟨j, hj, e⟩ := List.mem_iff_getElem.mp z
    exact h j (by rw [List.getElem?_eq_getElem hj, e])
  refine ⟨?_, hn⟩
  unfold valV
  rw [List.find?_eq_none.mpr]
  · rfl
  · intro p hp
    obtain ⟨x, hx, rfl⟩ := List.mem_map.mp hp
    simp only [decide_eq_true_iff]
    exact fun z => hn (z ▸ List.mem_map_of_mem hx)
section
variable {X : Cx} {pins : List (Addr × Obj)} {σ : St} {H : Hp} {s : Shared} {a : Addr} {t : Tr} {y v : V} {u r : Value} {A : Around} {E : Value → Shared → Prop} {kvs : List (Tr × V)} {m : List (Tr × V × V)}
theorem dt_ents (I : Inv X pins σ H s) (e2 : H a = some (DtO X.w.params a m)) (e3 : ∀ x ∈ m, x.1.At H x.2.1 [] ∧ x.1.h ≤ 8) (e4 : (m.map (·.1)).Nodup) :
    ∃ o es ep, s.heap.get? a = some o ∧ o.ExactDict ∧ o.data = .dict es ep ∧ DtR X.w.params m es ∧ Ents X.w.params s.heap es (m.map (·.1)) ∧ m.length ≤ sizeLine ∧ (a == sysModules) = false := by
  obtain ⟨⟨z1, z2, o, es, ep, q1, q2, q3, q4⟩, _⟩ := I.hok a _ e2
  refine ⟨o, es, ep, q1, q2, q3, q4, ⟨by rw [q4.len, List.length_map], fun j e he => ?_, e4⟩, z1, z2⟩
  have hj : j < m.length := by rw [← q4.len]; exact (Array.getElem?_eq_some_iff.mp he).1
  obtain ⟨e', f1, f2, f3, f4⟩ := q4.at_ j m[j] (List.getElem?_eq_getElem hj)
  rw [he] at f1
  cases f1
  have := e3 m[j] (List.getElem_mem hj)
  exact ⟨m[j].1, by rw [List.getElem?_map, List.getElem?_eq_getElem hj]; rfl, f2, this.1.isIn I f3, this.2⟩
theorem dt_get {Q : Option Value → Shared → Prop} (hu : A.units + 16 < cLine) (I : Inv X pins σ H s) (g : DtAt X.w.params H a kvs) (hk : TK H t y) (ry : RelV y u) (h : ∀ o s', Inv X pins σ H s' → RelO (valV kvs t) o → Q o s') :
    wpAny (model X.prog X.w) A (dictGet a u) Q E s := by
  obtain ⟨m, rfl, e2, e3, e4⟩ := g
  obtain ⟨o, es, ep, q1, q2, q3, q4, q5, _⟩ := dt_ents I e2 e3 e4
  have hin := hk.1.isIn I ry
  unfold dictGet
  try (with_reducible refine wpAny_holding ?_)
  refine wpAny_bind (hin.pyHash (by have := hk.2; omega) fun n => wpAny_bind (find_tr (s := { s with toks := n }) q1 q3 q5 hin hk.2 hu (fun hn => ?_) fun j hj => ?_))
  · refine wpAny_pure (h _ _ (I.tok _) ?_)
    rw [(valV_none hn).1]
    exact True.intro
  · rw [List.getElem?_map] at hj
    obtain ⟨x, hx, rfl⟩ := Option.map_eq_some_iff.mp hj
    obtain ⟨en, f1, f2, f3, f4⟩ := q4.at_ j x hx
    refine wpAny_bind (wpAny_dictEntries (s := { s with toks := n }) q1 q3 ?_)
    rw [f1]
    refine wpAny_pure (h _ _ (I.tok _) ?_)
    rw [valV_get e4 hx]
    exact f4
theorem dtr_snoc {P : Params} {es : Array DictEntry} {e : DictEntry} (x : DtR P m es) (h1 : e.hash = t.hash P) (h2 : RelV y e.key) (h3 : RelV v e.val) : DtR P (m ++ [(t, y, v)]) (es.push e) := by
  refine ⟨by simp [x.len], fun j z hz => ?_⟩
  by_cases hj : j < m.length
  · rw [List.getElem?_append_left hj] at hz
    obtain ⟨e', f1, f2⟩ := x.at_ j z hz
    exact ⟨e', by rw [Array.getElem?_push, if_neg (by rw [x.len]; omega)]; exact f1, f2⟩
  · rw [List.getElem?_append_right (by omega)] at hz
    have hj2 : j - m.length = 0 := by
      refine Nat.eq_zero_of_not_pos fun z => ?_
      rw [List.getElem?_eq_none (by simp; omega)] at hz
      cases hz
    rw [hj2] at hz
    cases hz
    exact ⟨e, by rw [Array.getElem?_push, if_pos (by rw [x.len]; omega)], h1, h2, h3⟩
theorem dtr_put {P : Params} {es : Array DictEntry} {j : Nat} {x : Tr × V × V} (R : DtR P m es) (hn : (m.map (·.1)).Nodup) (hx : m[j]? = some x) (h3 : RelV v r) :
    DtR P (m.map fun z => if z.1 = x.1 then (z.1, z.2.1, v) else z) (es.modify j fun e => { e with val := r }) := by
  refine ⟨by simp [R.len], fun i z hz => ?_⟩
  rw [List.getElem?_map] at hz
  obtain ⟨z0, hz0, rfl⟩ := Option.map_eq_some_iff.mp hz
  obtain ⟨e', f1, f2, f3, f4⟩ := R.at_ i z0 hz0
  have hi : i < es.size := (Array.getElem?_eq_some_iff.mp f1).1
  rw [Array.getElem?_modify, f1]
  by_cases hij : j = i
  · subst hij
    rw [hz0] at hx
    cases hx
    rw [if_pos rfl, if_pos rfl]
    exact ⟨_, rfl, f2, f3, h3⟩
  · rw [if_neg hij, if_neg]
    · exact ⟨_, rfl, f2, f3, f4⟩
    · intro e
      have pw := List.pairwise_iff_getElem.mp hn
      obtain ⟨l1, g1⟩ := List.getElem?_eq_some_iff.mp hx
      obtain ⟨l2, g2⟩ := List.getElem?_eq_some_iff.mp hz0
      rcases Nat.lt_trichotomy j i with h | h | h
      · exact pw j i (by simpa using l1) (by simpa using l2) h (by simp [g1, g2, e])
      · exact hij h
      · exact pw i j (by simpa using l2) (by simpa using l1) h (by simp [g1, g2, e])
theorem dt_set {Q : Unit → Shared → Prop} (hu : A.units + 16 < cLine) (I : Inv X pins σ H s) (e2 : H a = some (DtO X.w.params a m)) (e3 : ∀ x ∈ m, x.1.At H x.2.1 [] ∧ x.1.h ≤ 8) (e4 : (m.map (·.1)).Nodup) (hz : m.length < sizeLine)
    (hk : TK H t y) (ry : RelV y u) (rv : RelV v r) (h : ∀ s', Inv X pins σ (upd H a (DtO X.w.params a (putM m t y v))) s' → Q () s') :
    wpAny (model X.prog X.w) A (dictSet a u r) Q E s := by
  obtain ⟨o, es, ep, q1, q2, q3, q4, q5, z1, z2⟩ := dt_ents I e2 e3 e4
  have hin := hk.1.isIn I ry
  have hl : (putM m t y v).length ≤ sizeLine := by have := putM_len m t y v; omega
  unfold dictSet
  try (with_reducible refine wpAny_holding ?_)
  refine wpAny_bind (hin.pyHash (by have := hk.2; omega) fun n => ?_)
  unfold dictSetHashed
  try (with_reducible refine wpAny_holding ?_)
  refine wpAny_bind (find_tr (s := { s with toks := n }) q1 q3 q5 hin hk.2 hu (fun hn => ?_) fun j hj => ?_)
  · refine wpAny_bind (wpAny_rule (wpAny_updateDictKeys (s := { s with toks := n }) q1 q3 (h _ (d_write (I.tok n) (by rw [e2]; exact True.intro) (Heap.SameBut.update ..) ?_ (dto_ok ⟨hl, z2, _, _, ep + 1, Heap.get?_update_self _ q1 (Obj.isFreed_of_dict (Obj.data_mapDictKeys q3 _)), q2.mapDictKeys _, Obj.data_mapDictKeys q3 _, ?_⟩))) (by rw [q4.len]; omega)))
    · exact ⟨_, Heap.get?_update_self _ q1 (Obj.isFreed_of_dict (Obj.data_mapDictKeys q3 _))⟩
    · unfold putM
      rw [if_neg (valV_none hn).2]
      exact dtr_snoc q4 rfl ry rv
  · rw [List.getElem?_map] at hj
    obtain ⟨x, hx, rfl⟩ := Option.map_eq_some_iff.mp hj
    refine wpAny_bind (wpAny_rule (wpAny_bind (wpAny_updateDict (s := { s with toks := n }) q1 q3 (wpAny_point (h _ (d_write (I.tok n) (by rw [e2]; exact True.intro) (Heap.SameBut.update ..) ?_ (dto_ok ⟨hl, z2, _, _, ep, Heap.get?_update_self _ q1 (Obj.isFreed_of_dict (Obj.data_mapDict q3 _)), q2.mapDict _, Obj.data_mapDict q3 _, ?_⟩)))))))
    · exact ⟨_, Heap.get?_update_self _ q1 (Obj.isFreed_of_dict (Obj.data_mapDict q3 _))⟩
    · unfold putM
      rw [if_pos (List.mem_map_of_mem (List.mem_of_getElem? hx))]
      exact dtr_put q4 e4 hx rv
end
end L2
namespace L2
open PySem PySem.Spec PyProof.Rows
def RawD (h : Heap) (d : Addr) (es : Array DictEntry) (ep : Nat) : Prop := ∃ o, h.get? d = some o ∧ o.ExactDict ∧ o.data = .dict es ep
theorem RawD.ty {s : Shared} {d : Addr} {es : Array DictEntry} {ep : Nat} (x : RawD s.heap d es ep) : s.TypeIs (.ref d) "dict" := let ⟨o, e, c, _⟩ := x; ⟨o, e, c.1⟩
theorem RawD.keep {h h' : Heap} {d : Addr} {es : Array DictEntry} {ep : Nat} (x : RawD h d es ep) (k : ∀ o, h.get? d = some o → h'.get? d = some o) : RawD h' d es ep := let ⟨o, e, r⟩ := x; ⟨o, k o e, r⟩
theorem RawD.lt {h : Heap} {d : Addr} {es : Array DictEntry} {ep : Nat} (x : RawD h d es ep) : d < h.objs.size := let ⟨_, e, _⟩ := x; Heap.lt_size e
section
variable {prog : Program} {w : World} {A : Around} {E : Value → Shared → Prop} {s : Shared} {d it : Addr} {es : Array DictEntry} {ep i : Nat}
end
section
variable {X : Cx} {pins : List (Addr × Obj)} {σ : St} {H : Hp} {s : Shared} {a : Addr} {t : Tr} {y v z : V} {u r : Value} {A : Around} {E : Value → Shared → Prop} {kvs : List (Tr × V)} {m : List (Tr × V × V)}
theorem dt_raw (I : Inv X pins σ H s) (g : DtAt X.w.params H a kvs) : ∃ es ep, RawD s.heap a es ep ∧ (a == sysModules) = false ∧ es.size = kvs.length ∧ kvs.length ≤ sizeLine := by
  obtain ⟨m, rfl, e2, e3, e4⟩ := g
  obtain ⟨o, es, ep, q1, q2, q3, q4, q5, z1, z2⟩ := dt_ents I e2 e3 e4
  exact ⟨es, ep, ⟨o, q1, q2, q3⟩, z2, by rw [q4.len, List.length_map], by rw [List.length_map]; exact z1⟩
theorem dt_getItem {Q : Value → Shared → Prop} (hu : A.units + 20 < cLine) (I : Inv X pins σ H s) (g : DtAt X.w.params H a kvs) (hk : TK H t y) (ry : RelV y u) (hv : valV kvs t = some v) (h : ∀ w' s', Inv X pins σ H s' → RelV v w' → Q w' s') :
    wpAny (model X.prog X.w) A (getItem (.ref a) u) Q E s := by
  obtain ⟨_, _, x, _, _, _⟩ := dt_raw I g
  have T := x.ty
  unfold getItem
  try (with_reducible refine wpAny_holding ?_)
  refine wpAny_bind (wpAny_sequenceKey T (by decide) (wpAny_bind (wpAny_callSpecial?_slot (name := Str.ofString "__getitem__") T slot_dict_getitem (wpAny_call_entry slot_dict_getitem T entry_dict_getitem ?_ (args_dict_getitem _ _)))))
  show wpAny _ A.in1 (dictGet a u >>= _) _ _ s
  refine wpAny_bind (dt_get (by rw [in1_units]; omega) I g hk ry fun o s' I' ro => ?_)
  rw [hv] at ro
  obtain ⟨w', rfl, rw'⟩ := ro.some_of
  exact wpAny_pure ⟨w', rfl, wpAny_pure (h w' s' I' rw')⟩
theorem dt_contains {Q : Bool → Shared → Prop} (hu : A.units + 20 < cLine) (I : Inv X pins σ H s) (g : DtAt X.w.params H a kvs) (hk : TK H t y) (ry : RelV y u) (h : ∀ s', Inv X pins σ H s' → Q (valV kvs t).isSome s') :
    wpAny (model X.prog X.w) A (contains (.ref a) u) Q E s := by
  obtain ⟨_, _, x, lo, _, _⟩ := dt_raw I g
  have T := x.ty
  unfold contains
  try (with_reducible refine wpAny_holding ?_)
  refine wpAny_bind (wpAny_specialOf T slot_dict_contains.lookup ?_)
  show wpAny _ A (if (some (Value.builtin "dict.__contains__") == some Value.none) = true then _ else _) _ E s
  rw [if_neg (by rw [beq_builtin_none]; simp)]
  refine wpAny_bind (wpAny_callSpecialUnlessNone?_slot (name := Str.ofString "__contains__") T slot_dict_contains (wpAny_call_entry slot_dict_contains T entry_dict_contains ?_ (args_dict_contains _ _)))
  show wpAny _ A.in1 (dictGet a u >>= _) _ _ s
  refine wpAny_bind (dt_get (by rw [in1_units]; omega) I g hk ry fun o s' I' ro => ?_)
  have h := h s' I'
  rw [ro.isSome_eq] at h
  cases o with
  | some w' => exact (show wpAny _ _ (ret (.bool true)) _ _ _ from wpAny_pure ⟨_, rfl, wpAny_truthy_bool h⟩)
  | none => exact (show wpAny _ _ (Builtin.Dict.pendingKey? a u >>= _) _ _ _ from wpAny_bind (wpAny_pendingKey_other lo (wpAny_pure ⟨_, rfl, wpAny_truthy_bool h⟩)))
theorem dt_in {Q : Value → Shared → Prop} (hu : A.units + 20 < cLine) (I : Inv X pins σ H s) (g : DtAt X.w.params H a kvs) (hk : TK H t y) (ry : RelV y u) (h : ∀ s', Inv X pins σ H s' → Q (.bool (valV kvs t).isSome) s') :
    wpAny (model X.prog X.w) A (compareOp .In u (.ref a)) Q E s :=
  (show wpAny _ _ (do return .bool (← contains (.ref a) u)) Q E s from wpAny_bind (dt_contains hu I g hk ry fun s' I' => wpAny_pure (h s' I')))
theorem dt_setItem {Q : Unit → Shared → Prop} (hu : A.units + 20 < cLine) (I : Inv X pins σ H s) (e2 : H a = some (DtO X.w.params a m)) (e3 : ∀ x ∈ m, x.1.At H x.2.1 [] ∧ x.1.h ≤ 8) (e4 : (m.map (·.1)).Nodup) (hz : m.length < sizeLine)
    (hk : TK H t y) (ry : RelV y u) (rv : RelV v r) (h : ∀ s', Inv X pins σ (upd H a (DtO X.w.params a (putM m t y v))) s' → Q () s') : wpAny (model X.prog X.w) A (setItem (.ref a) u r) Q E s := by
  obtain ⟨_, _, x, lo, _, _⟩ := dt_raw I ⟨m, rfl, e2, e3, e4⟩
  have T := x.ty
  unfold setItem
  try (with_reducible refine wpAny_holding ?_)
  refine wpAny_bind (wpAny_sequenceKey T (by decide) (wpAny_bind (wpAny_callSpecial?_slot (name := Str.ofString "__setitem__") T slot_dict_setitem (wpAny_call_entry slot_dict_setitem T entry_dict_setitem ?_ (args_dict_setitem _ _ _)))))
  show wpAny _ A.in1 (Builtin.Dict.notOrdered "__setitem__" ⟨[.ref a, u, r], []⟩ >>= _) _ _ s
  refine wpAny_bind (wpAny_notOrdered_dict T ?_)
  show wpAny _ A.in1 (dictSet a u r >>= _) _ _ s
  exact wpAny_bind (dt_set (by rw [in1_units]; omega) I e2 e3 e4 hz hk ry rv fun s' I' => wpAny_pure ⟨.none, rfl, wpAny_pure (h s' I')⟩)
theorem dt_getD {Q : Value → Shared → Prop} (hu : A.units + 20 < cLine) (I : Inv X pins σ H s) (g : DtAt X.w.params H a kvs) (hk : TK H t y) (ry : RelV y u) (rz : RelV z r) (h : ∀ w' s', Inv X pins σ H s' → RelV ((valV kvs t).getD z) w' → Q w' s') :
    wpAny (model X.prog X.w) A (call (.builtin "dict.get") [.ref a, u, r]) Q E s := by
  obtain ⟨_, _, x, lo, _, _⟩ := dt_raw I g
  refine wpAny_call_entry PySem.F.slot_dict_get x.ty PySem.F.entry_dict_get ?_ (PySem.F.args_dict_get_3 _ _ _)
  show wpAny _ A.in1 (dictGet a u >>= _) _ _ s
  refine wpAny_bind (dt_get (by rw [in1_units]; omega) I g hk ry fun o s' I' ro => ?_)
  have h := h (o.getD r) s' I' (ro.getD rz)
  cases o with
  | some w' => exact wpAny_pure ⟨w', rfl, h⟩
  | none => exact (show wpAny _ _ (Builtin.Dict.missed a u >>= _) _ _ _ from wpAny_bind (wpAny_missed_other lo (wpAny_pure ⟨r, rfl, h⟩)))
end
end L2
namespace L2
open PySem PySem.Spec PyProof.Rows
theorem tups_updE {H : Hp} {a : Addr} {φ : Heap → Prop} {o : HO} (h : H a = some (.ext φ)) : Tups H (upd H a o) := fun b ys e => by rw [upd_ne (ne_of e h (fun z => nomatch z))]; exact e
theorem tr_tups {H H' : Hp} {t : Tr} {v : V} (h : t.At H v []) (k : Tups H H') : t.At H' v [] := h.mono ⟨k, fun _ m => absurd m (by simp)⟩
theorem tr_tups_s {H H' : Hp} {ts : List Tr} {vs : List V} (h : Tr.Ats H ts vs []) (k : Tups H H') : Tr.Ats H' ts vs [] := h.mono ⟨k, fun _ m => absurd m (by simp)⟩
theorem TK.mono {H H' : Hp} {t : Tr} {v : V} (h : TK H t v) (k : Tups H H') : TK H' t v := ⟨tr_tups h.1 k, h.2⟩
theorem DtAt.ext {P : Params} {H : Hp} {a : Addr} {kvs : List (Tr × V)} (g : DtAt P H a kvs) : ∃ φ, H a = some (.ext φ) := let ⟨_, _, e, _⟩ := g; ⟨_, e⟩
theorem DtAt.mono {P : Params} {H H' : Hp} {a : Addr} {kvs : List (Tr × V)} (g : DtAt P H a kvs) (k : Tups H H') (e : H' a = H a) : DtAt P H' a kvs := by
  obtain ⟨m, e1, e2, e3, e4⟩ := g
  exact ⟨m, e1, e.trans e2, fun x hx => ⟨tr_tups (e3 x hx).1 k, (e3 x hx).2⟩, e4⟩
theorem dt_putM {P : Params} {H : Hp} {a : Addr} {m : List (Tr × V × V)} {t : Tr} {y v : V} (e2 : H a = some (DtO P a m)) (e3 : ∀ x ∈ m, x.1.At H x.2.1 [] ∧ x.1.h ≤ 8) (e4 : (m.map (·.1)).Nodup) (hk : TK H t y) :
    DtAt P (upd H a (DtO P a (putM m t y v))) a (putK (m.map fun x => (x.1, x.2.2)) t v) := by
  refine ⟨_, putM_kvs m t y v, upd_same, ?_, putM_nd t y v e4⟩
  exact putM_all (p := fun t y => t.At (upd H a (DtO P a (putM m _ _ _))) y [] ∧ t.h ≤ 8) (fun x hx => ⟨tr_tups (e3 x hx).1 (tups_updE e2), (e3 x hx).2⟩) ⟨tr_tups hk.1 (tups_updE e2), hk.2⟩
def tTNew (P : Params) : TE := fun _ H Q => ∀ p o, H p = none → DtAt P (upd H p o) p [] → Q (.ref p) (upd H p o)
def tTGet (P : Params) (td ty : TE) : TE := fun σ H Q => td σ H fun x H1 => ty σ H1 fun y H2 => ∃ a kvs t v, x = .ref a ∧ DtAt P H2 a kvs ∧ TK H2 t y ∧ valV kvs t = some v ∧ Q v H2
def tTIn (P : Params) (ty td : TE) : TE := fun σ H Q => ty σ H fun y H1 => td σ H1 fun x H2 => ∃ a kvs t, x = .ref a ∧ DtAt P H2 a kvs ∧ TK H2 t y ∧ Q (.bl (valV kvs t).isSome) H2
def tTNotIn (P : Params) (ty td : TE) : TE := fun σ H Q => ty σ H fun y H1 => td σ H1 fun x H2 => ∃ a kvs t, x = .ref a ∧ DtAt P H2 a kvs ∧ TK H2 t y ∧ Q (.bl (!(valV kvs t).isSome)) H2
def sTPut (P : Params) (td ty tv : TE) : TS := fun D σ H => tv σ H fun v H1 => td σ H1 fun x H2 => ty σ H2 fun y H3 => ∃ a kvs t, x = .ref a ∧ DtAt P H3 a kvs ∧ TK H3 t y ∧ kvs.length < sizeLine ∧ ∀ o, DtAt P (upd H3 a o) a (putK kvs t v) → D.nx σ (upd H3 a o)
def tTGet1 (P : Params) (td ty : TE) : TE := fun σ H Q => td σ H fun x H1 => ∃ a kvs, x = .ref a ∧ DtAt P H1 a kvs ∧ ty σ H1 fun y H2 => ∃ kvs' t, DtAt P H2 a kvs' ∧ TK H2 t y ∧ Q ((valV kvs' t).getD .non) H2
def tTGet2 (P : Params) (td ty tx : TE) : TE := fun σ H Q => td σ H fun x H1 => ∃ a kvs, x = .ref a ∧ DtAt P H1 a kvs ∧ ty σ H1 fun y H2 => tx σ H2 fun z H3 => ∃ kvs' t, DtAt P H3 a kvs' ∧ TK H3 t y ∧ Q ((valV kvs' t).getD z) H3
def tTSetD (P : Params) (td ty tx : TE) : TE := fun σ H Q => td σ H fun x H1 => ∃ a kvs, x = .ref a ∧ DtAt P H1 a kvs ∧ ty σ H1 fun y H2 => tx σ H2 fun z H3 => ∃ kvs' t, DtAt P H3 a kvs' ∧ TK H3 t y ∧ kvs'.length < sizeLine ∧
  (∀ v, valV kvs' t = some v → Q v H3) ∧ (valV kvs' t = none → ∀ o, DtAt P (upd H3 a o) a (kvs' ++ [(t, z)]) → Q z (upd H3 a o))
def rListT (P : Params) : List V → Hp → VK → Prop := fun xs H Q => ∃ a kvs, xs = [.ref a] ∧ DtAt P H a kvs ∧ ∀ p ks H', H p = none → Same H H' → H' p = some (.lst ks) → Tr.Ats H' (kvs.map (·.1)) ks [] → Q (.ref p) H'
section
variable {X : Cx} {o i e f value : Expr} {pos pos' apos cpos : Pos} {td ty tv tx : TE} {P : Params}
theorem dt_new0 (h : Heap) (P : Params) (hb : sysModules < h.objs.size) : DtP P h.objs.size [] (h.push { cls := .type "dict", data := .dict #[] }) :=
  ⟨Nat.zero_le _, beq_eq_false_iff_ne.mpr (Ne.symm (Nat.ne_of_lt hb)), _, #[], 0, Heap.get?_push_size _ rfl, ⟨rfl, rfl, rfl⟩, rfl, rfl, fun j x hx => by simp at hx⟩
theorem pe_tnew (P : Params) : PE X (.Dict [] [] pos) (tTNew P) := fun pins s σ H Q I h =>
  wpAny_Dict_empty ⟨.ref s.heap.objs.size, _, I.laid (a := s.heap.objs.size) (o := DtO P s.heap.objs.size []) (t' := s.toks) (fun _ _ q => Heap.get?_push_of_some _ q) (Nat.le_refl _) (dto_ok (dt_new0 s.heap P I.big)), rfl,
    h _ _ (I.hok.fresh (Nat.le_refl _)) ⟨[], rfl, upd_same, fun x hx => absurd hx (by simp), List.nodup_nil⟩⟩
theorem pe_tget (hP : X.w.params = P) (hu : X.A.units + 64 < cLine) (ho : PE X o td) (hi : PE X i ty) (hs : NoSl i) : PE X (.Subscript o i pos) (tTGet P td ty) := by
  subst hP
  intro pins s σ H Q I h
  refine subD_of PySem.F.slot_dict_getitem.lookup hs (thn (ho pins s σ H _ I h) fun u s1 ⟨x, H1, I1, rx, q1⟩ => thn (hi pins s1 σ H1 _ I1 q1) fun iv s2 ⟨y, H2, I2, ry, a, kvs, t, v, ex, g, hk, hv, q2⟩ => ?_)
  subst ex
  obtain rfl : u = Value.ref a := rx
  obtain ⟨_, _, x, _⟩ := dt_raw I2 g
  exact ⟨x.ty, dt_getItem (by omega) I2 g hk ry hv fun w' s3 I3 rw' => ⟨v, H2, I3, rw', q2⟩⟩
theorem pc_tin (hP : X.w.params = P) (hu : X.A.units + 64 < cLine) (hi : PE X i ty) (ho : PE X o td) : PC X .In i o (tTIn P ty td) := by
  subst hP
  intro pins s σ H Q I h
  refine thn (hi pins s σ H _ I h) fun iv s1 ⟨y, H1, I1, ry, q1⟩ => thn (ho pins s1 σ H1 _ I1 q1) fun u s2 ⟨x, H2, I2, rx, a, kvs, t, ex, g, hk, q2⟩ => ?_
  subst ex
  obtain rfl : u = Value.ref a := rx
  exact dt_in (by omega) I2 g hk ry fun s3 I3 => ⟨.bl _, H2, I3, rfl, q2⟩
theorem ps_tput (hP : X.w.params = P) (hu : X.A.units + 64 < cLine) (ho : PE X o td) (hi : PE X i ty) (hv : PE X value tv) (hs : swapsWith value (some (.Subscript o i pos')) pos.line X.env = pure false) :
    PS X (.Assign [.Subscript o i pos'] value pos) (sTPut P td ty tv) := by
  subst hP
  intro pins s σ H D I h
  refine wpAny_Assign_Subscript (thn (hv pins s σ H _ I h) fun r s1 ⟨v, H1, I1, rv, q1⟩ => thn (ho pins s1 σ H1 _ I1 q1) fun u s2 ⟨x, H2, I2, rx, q2⟩ => thn (hi pins s2 σ H2 _ I2 q2) fun iv s3 ⟨y, H3, I3, ry, a, kvs, t, ex, g, hk, hz, q3⟩ => ?_) hs
  subst ex
  obtain rfl : u = Value.ref a := rx
  obtain ⟨m, rfl, e2, e3, e4⟩ := g
  rw [List.length_map] at hz
  exact dt_setItem (by omega) I3 e2 e3 e4 hz hk ry rv fun s4 I4 => ⟨σ, _, I4, q3 _ (dt_putM e2 e3 e4 hk)⟩
theorem pe_tget2 (hP : X.w.params = P) (hu : X.A.units + 64 < cLine) (ho : PE X o td) (he : PE X e ty) (hf : PE X f tx) (m : M2 X o "get" apos e f cpos) : PE X (.Call (.Attribute o "get" apos) [e, f] [] cpos) (tTGet2 P td ty tx) := by
  subst hP
  intro pins s σ H Q I h
  refine wpAny_Call_method m.base m.few m.line PySem.F.plainAttrs_dict PySem.F.slot_dict_get PySem.F.type_dict_get (thn (ho pins s σ H _ I h) fun u s1 ⟨x, H1, I1, rx, a, kvs, ex, g1, q1⟩ => ?_)
  subst ex
  obtain rfl : u = Value.ref a := rx
  obtain ⟨es, ep, x, _⟩ := dt_raw I1 g1
  refine ⟨x.ty, (fun b q => by cases q; obtain ⟨ob, h1, h2, _⟩ := x; exact ⟨ob, h1, h2.2.1⟩), ?_⟩
  rw [m.trees]
  refine Calls.callWith_builtin rfl (Calls.evalArgs_plain (Calls.spliced_cons (thn (he pins s1 σ H1 _ I1 q1) fun iv s2 ⟨y, H2, I2, ry, q2⟩ => Calls.spliced_cons (thn (hf pins s2 σ H2 _ I2 q2) fun fv s3 ⟨z, H3, I3, rz, kvs', t, g, hk, q3⟩ => Calls.spliced_nil ?_))))
  exact dt_getD (by omega) I3 g hk ry rz fun w' s4 I4 rw' => ⟨_, H3, I4, rw', q3⟩
end
def rEqF : R2 := fun x y H Q => ∃ (t r : Tr), t.At H x [] ∧ r.At H y [] ∧ t.h ≤ 20 ∧ r.h ≤ 20 ∧ Q (.bl (decide (t = r))) H
def rNotInF (K : PySem.W.Frag) : R2 := fun x y H Q => ∃ (t : Tr) (ts : List Tr) (a : Addr) (vs : List V), t.At H x [] ∧ y = .ref a ∧ SqL K H a vs ∧ Tr.Ats H ts vs [] ∧ t.h ≤ 20 ∧ Tr.hs ts ≤ 20 ∧ Q (.bl (!decide (t ∈ ts))) H
def rSum (K : PySem.W.Frag) : List V → Hp → VK → Prop := fun xs H Q => ∃ (a : Addr) (ns : List Int), xs = [.ref a] ∧ SqL K H a (ns.map V.int) ∧ Q (.int ns.sum) H
section
variable {X : Cx}
theorem cl_sum (hc : X.calm = true) : CallR X (.builtin "sum") (rSum X.K) := by
  intro pins s σ H xs us Q I r h
  obtain ⟨a, ns, rfl, hS, q⟩ := h
  cases r with
  | cons r1 r2 =>
  cases r2
  cases r1
  obtain ⟨its, v1, p1, _⟩ := I.list hS
  have hi := intsAre_of v1
  obtain ⟨ys, e⟩ := hi.allInts.items
  have hn := nums_intItems (xs := ys)
  rw [← e, show its.toArray.toList = its from rfl, hi.numsOf] at hn
  refine sum_intListG (xs := ys) (I.ok.hd hc) (e ▸ p1.isList) fun h' tk t' hk => ⟨.int ns.sum, H, I.kept hk, ⟨t', ?_⟩, q⟩
  rw [preSum_eq, List.take_of_length_le (by simp), hn]
end
end L2
namespace L2
open PySem PySem.Spec PyProof.Rows
section
variable {P : Params} {σ : St} {H : Hp} {Q : VK} {td ty tx tv : TE} {nn bb cc : St → Hp → Prop} {rr : VK}
theorem i_tnew (h : ∀ p o, H p = none → DtAt P (upd H p o) p [] → Q (.ref p) (upd H p o)) : tTNew P σ H Q := h
theorem i_tget (h : td σ H fun x H1 => ty σ H1 fun y H2 => ∃ a kvs t v, x = .ref a ∧ DtAt P H2 a kvs ∧ TK H2 t y ∧ valV kvs t = some v ∧ Q v H2) : tTGet P td ty σ H Q := h
theorem i_tin (h : ty σ H fun y H1 => td σ H1 fun x H2 => ∃ a kvs t, x = .ref a ∧ DtAt P H2 a kvs ∧ TK H2 t y ∧ Q (.bl (valV kvs t).isSome) H2) : tTIn P ty td σ H Q := h
theorem i_tnotin (h : ty σ H fun y H1 => td σ H1 fun x H2 => ∃ a kvs t, x = .ref a ∧ DtAt P H2 a kvs ∧ TK H2 t y ∧ Q (.bl (!(valV kvs t).isSome)) H2) : tTNotIn P ty td σ H Q := h
theorem i_tput (h : tv σ H fun v H1 => td σ H1 fun x H2 => ty σ H2 fun y H3 => ∃ a kvs t, x = .ref a ∧ DtAt P H3 a kvs ∧ TK H3 t y ∧ kvs.length < sizeLine ∧ ∀ o, DtAt P (upd H3 a o) a (putK kvs t v) → nn σ (upd H3 a o)) : sTPut P td ty tv ⟨nn, rr, bb, cc⟩ σ H := h
theorem i_tget1 (h : td σ H fun x H1 => ∃ a kvs, x = .ref a ∧ DtAt P H1 a kvs ∧ ty σ H1 fun y H2 => ∃ kvs' t, DtAt P H2 a kvs' ∧ TK H2 t y ∧ Q ((valV kvs' t).getD .non) H2) : tTGet1 P td ty σ H Q := h
theorem i_tget2 (h : td σ H fun x H1 => ∃ a kvs, x = .ref a ∧ DtAt P H1 a kvs ∧ ty σ H1 fun y H2 => tx σ H2 fun z H3 => ∃ kvs' t, DtAt P H3 a kvs' ∧ TK H3 t y ∧ Q ((valV kvs' t).getD z) H3) : tTGet2 P td ty tx σ H Q := h
theorem i_tsetd (h : td σ H fun x H1 => ∃ a kvs, x = .ref a ∧ DtAt P H1 a kvs ∧ ty σ H1 fun y H2 => tx σ H2 fun z H3 => ∃ kvs' t, DtAt P H3 a kvs' ∧ TK H3 t y ∧ kvs'.length < sizeLine ∧
  (∀ v, valV kvs' t = some v → Q v H3) ∧ (valV kvs' t = none → ∀ o, DtAt P (upd H3 a o) a (kvs' ++ [(t, z)]) → Q z (upd H3 a o))) : tTSetD P td ty tx σ H Q := h
end
def rEqNil (K : PySem.W.Frag) : R2 := fun x y H Q => ∃ a b xs, x = .ref a ∧ y = .ref b ∧ SqL K H a xs ∧ SqL K H b [] ∧ Q (.bl xs.isEmpty) H
def rNeNil (K : PySem.W.Frag) : R2 := fun x y H Q => ∃ a b xs, x = .ref a ∧ y = .ref b ∧ SqL K H a xs ∧ SqL K H b [] ∧ Q (.bl (!xs.isEmpty)) H
section
variable {X : Cx}
theorem kop_eqNil (K : PySem.W.Frag) (hu : X.A.units + 64 < cLine) (hK : X.K = K := by rfl) : OpR X (compareOp .Eq) (rEqNil K) := by
  subst hK
  intro pins s σ H x y v u Q I rx ry h
  obtain ⟨a, b, xs, rfl, rfl, h1, h2, q⟩ := h
  cases rx
  cases ry
  obtain ⟨is1, q1, p1, _⟩ := I.list h1
  obtain ⟨is2, q2, p2, _⟩ := I.list h2
  cases q2
  cases q1 with
  | nil =>
    have := SeqAt.RcAt.lists (A := X.A) (s := s) (e := fun _ => true) p1.isList p2.isList rfl (by omega) (fun j h1 _ => absurd h1 (by simp))
    exact this X.prog X.w X.xe (EP X pins σ Q) ⟨.bl true, H, I, rfl, q⟩
  | cons r1 r2 =>
    have := SeqAt.RcAt.lists_lengths (A := X.A) (s := s) p1.isList p2.isList (by simp) (by omega)
    exact this X.prog X.w X.xe (EP X pins σ Q) ⟨.bl false, H, I, rfl, q⟩
theorem kcl_sum (K : PySem.W.Frag) (h : X.calm = true := by rfl) (hK : X.K = K := by rfl) : CallR X (.builtin "sum") (rSum K) := hK ▸ cl_sum h
end
section
variable {K : PySem.W.Frag} {H : Hp} {Q : VK}
theorem i_eqNil {a b : Addr} {xs : List V} (h1 : SqL K H a xs) (h2 : SqL K H b []) (h : Q (.bl xs.isEmpty) H) : rEqNil K (.ref a) (.ref b) H Q := ⟨a, b, xs, rfl, rfl, h1, h2, h⟩
theorem i_sum {a : Addr} {ns : List Int} (h1 : SqL K H a (ns.map V.int)) (h : Q (.int ns.sum) H) : rSum K [.ref a] H Q := ⟨a, ns, rfl, h1, h⟩
end
end L2
namespace L2
open PySem PySem.Spec PyProof.Rows
def Off (d l : Addr) (H H' : Hp) : Prop := ∀ b o, b ≠ d → b ≠ l → H b = some o → H' b = some o
structure Deck (H : Hp) (d l : Addr) (n : Nat) : Prop where
  ex : ∃ (ms : List Int) (z : Int), H d = some (.lst [.ref l, .int (n : Nat), .int z]) ∧ H l = some (.lst (ms.map V.int)) ∧ ms.length ≤ 100
theorem Deck.ne {H : Hp} {d l : Addr} {n : Nat} (k : Deck H d l n) : d ≠ l := by
  obtain ⟨ms, z, h1, h2, _⟩ := k.ex
  rintro rfl
  rw [h1] at h2
  injection h2 with h2
  injection h2 with h2
  cases ms with
  | nil => simp at h2
  | cons m ms => simp at h2
theorem Off.refl {d l : Addr} {H : Hp} : Off d l H H := fun _ _ _ _ e => e
theorem Off.trans {d l : Addr} {H H1 H2 : Hp} (a : Off d l H H1) (b : Off d l H1 H2) : Off d l H H2 := fun c o h1 h2 e => b c o h1 h2 (a c o h1 h2 e)
theorem Off.tups {d l : Addr} {H H' : Hp} {n : Nat} (f : Off d l H H') (k : Deck H d l n) : Tups H H' := fun b ys e => by
  obtain ⟨ms, z, h1, h2, _⟩ := k.ex
  exact f b _ (ne_of e h1 (fun z => nomatch z)) (ne_of e h2 (fun z => nomatch z)) e
theorem Deck.same {H H' : Hp} {d l : Addr} {n : Nat} (k : Deck H d l n) (s : Same H H') : Deck H' d l n := by
  obtain ⟨ms, z, h1, h2, h3⟩ := k.ex
  exact ⟨ms, z, s _ _ h1, s _ _ h2, h3⟩
theorem Deck.new {H : Hp} {d l p : Addr} {n : Nat} (k : Deck H d l n) (h : H p = none) : p ≠ d ∧ p ≠ l := by
  obtain ⟨ms, z, h1, h2, _⟩ := k.ex
  exact ⟨(ne_of_none h1 h).symm, (ne_of_none h2 h).symm⟩
theorem Off.free {d l p : Addr} {H H' : Hp} {n : Nat} (f : Off d l H H') (k : Deck H' d l n) (h : H' p = none) : H p = none := by
  obtain ⟨x1, x2⟩ := k.new h
  cases e : H p with
  | none => rfl
  | some o => rw [f p o x1 x2 e] at h; cases h
end L2
namespace L2
open PySem PySem.Spec PyProof.Rows
section
variable {X : Cx} {o e value : Expr} {f : Str} {pos pos' : Pos} {ta tv : TE}
theorem kpe_fld (K : PySem.W.Frag) (he : PE X e ta) (hb : attributeBase e f X.env (eval e X.env) = eval e X.env) (hK : X.K = K := by rfl) : PE X (.Attribute e f pos) (tFld K ta f) := hK ▸ pe_fld he hb
theorem kps_fld (K : PySem.W.Frag) (ha : PE X o ta) (hv : PE X value tv) (hs : swapsWith value (some (.Attribute o f pos')) pos.line X.env = pure false) (hK : X.K = K := by rfl) : PS X (.Assign [.Attribute o f pos'] value pos) (sFld K ta tv f) := hK ▸ ps_fld ha hv hs
structure ClsI (K : PySem.W.Frag) (C : Addr) : Prop where
  ha : PySem.W.findIn K (.ref C) "__class__" = some (some (.builtin "object.__class__"))
  hn : PySem.W.specialIn K (.builtin "object.__class__") "__get__" = some (some (.builtin "getset_descriptor.__get__"))
  htk : PySem.W.takesIn K (.builtin "object.__class__") = some true
  hm : PySem.W.mroIn K C (.type "object") = some true
def rIsiC (K : PySem.W.Frag) : List V → Hp → VK → Prop := fun xs H Q => ∃ a C dx fs M b, xs = [.ref a, .ref M] ∧ H a = some (.ins C dx fs) ∧ Cls K C ∧ ClsI K C ∧ PySem.W.kitOne K (.ref C) (.ref M) = some b ∧ Q (.bl b) H
end
section
variable {K : PySem.W.Frag} {σ : St} {H : Hp} {Q : VK} {ta tv : TE} {t : TA} {f m : Str} {C : Addr} {sp : Sp} {dvs : List V} {E : XK} {nn bb cc : St → Hp → Prop} {rr : VK}
theorem i_fld (h : ta σ H fun x H1 => ∃ a C dx fs v, x = .ref a ∧ H1 a = some (.ins C dx fs) ∧ Cls K C ∧ NoAttr K C f ∧ fs.lookup f = some v ∧ Q v H1) : tFld K ta f σ H Q := h
theorem i_sfld (h : tv σ H fun y H1 => ta σ H1 fun x H2 => ∃ a C dx fs, x = .ref a ∧ H2 a = some (.ins C dx fs) ∧ Cls K C ∧ NoAttr K C f ∧ fs.length < 1000 ∧ nn σ (upd H2 a (.ins C dx (putF f y fs)))) : sFld K ta tv f ⟨nn, rr, bb, cc⟩ σ H := h
theorem i_meth (h : ta σ H fun x H1 => ∃ a dx fs, x = .ref a ∧ H1 a = some (.ins C dx fs) ∧ fs.lookup m = none ∧ t σ H1 fun vs H2 => sp (x :: (vs ++ dvs)) H2 Q E) : tMeth C m sp dvs E ta t σ H Q := h
theorem i_make (h : t σ H fun vs H1 => ∀ x dx, H1 x = none → H1 dx = none → dx ≠ x → sp (.ref x :: (vs ++ dvs)) (upd (upd H1 dx (.own x)) x (.ins C dx [])) (fun v H2 => v = .non ∧ Q (.ref x) H2) E) : tMake C sp dvs E t σ H Q := h
end
theorem tups_updI {H : Hp} {a C dx : Addr} {fs : List (Str × V)} {o : HO} (h : H a = some (.ins C dx fs)) : Tups H (upd H a o) := fun b ys e => by rw [upd_ne (ne_of e h (fun z => nomatch z))]; exact e
end L2
namespace L2
open PySem PySem.Spec PyProof.Rows
inductive Tw where
  | sc (v : V)
  | tup (xs : List Tw)
  | lst (xs : List Tw)
def Scal : V → Prop
  | .non | .int _ | .str _ | .bl _ => True
  | _ => False
mutual
def Tw.At (H : Hp) : Tw → V → List Addr → Prop
  | .sc x, v, fs => v = x ∧ Scal x ∧ fs = []
  | .tup xs, v, fs => ∃ a vs, v = .ref a ∧ H a = some (.tup vs) ∧ Tw.Ats H xs vs fs
  | .lst xs, v, fs => ∃ a vs gs, v = .ref a ∧ H a = some (.lst vs) ∧ Tw.Ats H xs vs gs ∧ fs = a :: gs
def Tw.Ats (H : Hp) : List Tw → List V → List Addr → Prop
  | [], vs, fs => vs = [] ∧ fs = []
  | x :: xs, vs, fs => ∃ v ws f g, vs = v :: ws ∧ fs = f ++ g ∧ Tw.At H x v f ∧ Tw.Ats H xs ws g
end
mutual
theorem Tw.At.mono {H H' : Hp} : ∀ {x : Tw} {v : V} {fs : List Addr}, x.At H v fs → Keep fs H H' → x.At H' v fs
  | .sc _, _, _, h, _ => by simpa only [Tw.At] using h
  | .tup xs, v, fs, h, k => by
    simp only [Tw.At] at h ⊢
    obtain ⟨a, vs, e, g, r⟩ := h
    exact ⟨a, vs, e, k.1 _ _ g, Tw.Ats.mono r k⟩
  | .lst xs, v, fs, h, k => by
    simp only [Tw.At] at h ⊢
    obtain ⟨a, vs, gs, e, g, r, rfl⟩ := h
    exact ⟨a, vs, gs, e, k.2 _ (by simp) _ g, Tw.Ats.mono r (k.sub fun b m => by simp [m]), rfl⟩
theorem Tw.Ats.mono {H H' : Hp} : ∀ {xs : List Tw} {vs : List V} {fs : List Addr}, Tw.Ats H xs vs fs → Keep fs H H' → Tw.Ats H' xs vs fs
  | [], _, _, h, _ => by simpa only [Tw.Ats] using h
  | x :: xs, vs, fs, h, k => by
    simp only [Tw.Ats] at h ⊢
    obtain ⟨v, ws, f, g, e, rfl, a, b⟩ := h
    exact ⟨v, ws, f, g, e, rfl, Tw.At.mono a (k.sub fun c m => by simp [m]), Tw.Ats.mono b (k.sub fun c m => by simp [m])⟩
end
theorem Tw.At.same {H H' : Hp} {x : Tw} {v : V} {fs : List Addr} (h : x.At H v fs) (s : Same H H') : x.At H' v fs := h.mono (s.keep _)
theorem Tw.Ats.same {H H' : Hp} {xs : List Tw} {vs : List V} {fs : List Addr} (h : Tw.Ats H xs vs fs) (s : Same H H') : Tw.Ats H' xs vs fs := h.mono (s.keep _)
theorem Tw.Ats.len {H : Hp} : ∀ {xs : List Tw} {vs : List V} {fs : List Addr}, Tw.Ats H xs vs fs → vs.length = xs.length
  | [], vs, fs, h => by simp only [Tw.Ats] at h; rw [h.1]; rfl
  | x :: xs, vs, fs, h => by
    simp only [Tw.Ats] at h
    obtain ⟨v, ws, f, g, rfl, rfl, _, b⟩ := h
    simp [b.len]
theorem Tw.Ats.snoc {H : Hp} : ∀ {xs : List Tw} {vs : List V} {fs gs : List Addr} {x : Tw} {v : V}, Tw.Ats H xs vs fs → x.At H v gs → Tw.Ats H (xs ++ [x]) (vs ++ [v]) (fs ++ gs)
  | [], vs, fs, gs, x, v, h, a => by
    simp only [Tw.Ats] at h
    obtain ⟨rfl, rfl⟩ := h
    simp only [List.nil_append, Tw.Ats]
    exact ⟨v, [], gs, [], rfl, by simp, a, rfl, rfl⟩
  | y :: ys, vs, fs, gs, x, v, h, a => by
    simp only [Tw.Ats, List.cons_append] at h ⊢
    obtain ⟨w, ws, f, g, rfl, rfl, b, c⟩ := h
    exact ⟨w, ws ++ [v], f, g ++ gs, rfl, by simp, b, c.snoc a⟩
theorem Tw.Ats.get {H : Hp} : ∀ {xs : List Tw} {vs : List V} {fs : List Addr}, Tw.Ats H xs vs fs → ∀ (i : Nat) (v : V), vs[i]? = some v → ∃ x f, xs[i]? = some x ∧ x.At H v f ∧ ∀ a ∈ f, a ∈ fs
  | [], vs, fs, h, i, v, e => by simp only [Tw.Ats] at h; rw [h.1] at e; simp at e
  | x :: xs, vs, fs, h, i, v, e => by
    simp only [Tw.Ats] at h
    obtain ⟨w, ws, f, g, rfl, rfl, a, b⟩ := h
    cases i with
    | zero =>
      obtain rfl : w = v := by simpa using e
      exact ⟨x, f, rfl, a, fun c m => by simp [m]⟩
    | succ i =>
      obtain ⟨y, f', h1, h2, h3⟩ := b.get i v (by simpa using e)
      exact ⟨y, f', by simpa using h1, h2, fun c m => by simp [h3 c m]⟩
mutual
def Tw.h : Tw → Nat
  | .sc _ => 0
  | .tup xs => Tw.hs xs + 1
  | .lst xs => Tw.hs xs + 1
def Tw.hs : List Tw → Nat
  | [] => 0
  | x :: xs => max x.h (Tw.hs xs)
end
theorem scal_eq {A : Around} {s : Shared} {x : V} {u z : Value} (h : Scal x) (r1 : RelV x u) (r2 : RelV x z) : SeqAt.EqAt A s u z true := by
  cases x with
  | non => cases r1; cases r2; exact SeqAt.EqAt.same _
  | int i =>
    obtain ⟨t1, rfl⟩ := r1
    obtain ⟨t2, rfl⟩ := r2
    have := SeqAt.EqAt.int_int (A := A) (s := s) i t1 i t2
    simpa using this
  | str i =>
    obtain ⟨t1, rfl⟩ := r1
    obtain ⟨t2, rfl⟩ := r2
    have := SeqAt.EqAt.str_str (A := A) (s := s) i t1 i t2
    simpa using this
  | bl b =>
    cases (show u = Value.bool b from r1)
    cases (show z = Value.bool b from r2)
    exact SeqAt.EqAt.same _
  | _ => exact h.elim
section
variable {X : Cx} {pins : List (Addr × Obj)} {σ : St} {H : Hp} {s : Shared}
mutual
theorem Tw.eqAt (I : Inv X pins σ H s) : ∀ {t : Tw} {A : Around} {v w : V} {fs gs : List Addr} {u z : Value}, t.At H v fs → t.At H w gs → RelV v u → RelV w z → A.units + t.h < cLine → SeqAt.EqAt A s u z true
  | .sc x, A, v, w, fs, gs, u, z, h1, h2, r1, r2, hu => by
    simp only [Tw.At] at h1 h2
    obtain ⟨rfl, sc, -⟩ := h1
    obtain ⟨rfl, -, -⟩ := h2
    exact scal_eq sc r1 r2
  | .tup xs, A, v, w, fs, gs, u, z, h1, h2, r1, r2, hu => by
    simp only [Tw.At] at h1 h2
    obtain ⟨a, vs, rfl, e1, c1⟩ := h1
    obtain ⟨b, ws, rfl, e2, c2⟩ := h2
    cases r1
    cases r2
    by_cases hab : a = b
    · subst hab
      exact SeqAt.EqAt.same _
    refine SeqAt.EqAt.of_refs hab ?_
    obtain ⟨is1, q1, p1, _⟩ := I.tuple (SqT.of e1)
    obtain ⟨is2, q2, p2, _⟩ := I.tuple (SqT.of e2)
    simp only [Tw.h] at hu
    have hl : is1.length = is2.length := by rw [← q1.length, ← q2.length, c1.len, c2.len]
    have := SeqAt.RcAt.tuples (A := A) (s := s) (e := fun _ => true) p1 p2 (by omega) (fun j h1 h2 => by
      have := Tw.eqAts I (A := A.in1) c1 c2 q1 q2 (by rw [in1_units]; omega) j (by simpa using h1) (by simpa using h2)
      simpa using this)
    simpa [hl, all_tt] using this
  | .lst xs, A, v, w, fs, gs, u, z, h1, h2, r1, r2, hu => by
    simp only [Tw.At] at h1 h2
    obtain ⟨a, vs, _, rfl, e1, c1, _⟩ := h1
    obtain ⟨b, ws, _, rfl, e2, c2, _⟩ := h2
    cases r1
    cases r2
    by_cases hab : a = b
    · subst hab
      exact SeqAt.EqAt.same _
    refine SeqAt.EqAt.of_refs hab ?_
    obtain ⟨is1, q1, p1, _⟩ := I.list (SqL.of e1)
    obtain ⟨is2, q2, p2, _⟩ := I.list (SqL.of e2)
    simp only [Tw.h] at hu
    have hl : is1.length = is2.length := by rw [← q1.length, ← q2.length, c1.len, c2.len]
    have := SeqAt.RcAt.lists (A := A) (s := s) (e := fun _ => true) p1.isList p2.isList (by simpa using hl) (by omega) (fun j h1 h2 => by
      have := Tw.eqAts I (A := A.in1) c1 c2 q1 q2 (by rw [in1_units]; omega) j (by simpa using h1) (by simpa using h2)
      simpa using this)
    simpa [all_tt] using this
theorem Tw.eqAts (I : Inv X pins σ H s) : ∀ {ts : List Tw} {A : Around} {vs ws : List V} {fs gs : List Addr} {us zs : List Value}, Tw.Ats H ts vs fs → Tw.Ats H ts ws gs → Vals vs us → Vals ws zs → A.units + Tw.hs ts < cLine →
    ∀ (j : Nat) (h1 : j < us.length) (h2 : j < zs.length), SeqAt.EqAt A s us[j] zs[j] true
  | [], A, vs, ws, fs, gs, us, zs, c1, c2, q1, q2, hu, j, h1, h2 => by
    simp only [Tw.Ats] at c1
    obtain ⟨rfl, -⟩ := c1
    cases q1
    exact absurd h1 (by simp)
  | t :: ts, A, vs, ws, fs, gs, us, zs, c1, c2, q1, q2, hu, j, h1, h2 => by
    simp only [Tw.Ats] at c1 c2
    obtain ⟨v, vs, f, g, rfl, rfl, a1, b1⟩ := c1
    obtain ⟨w, ws, f', g', rfl, rfl, a2, b2⟩ := c2
    cases q1 with
    | cons r1 q1 =>
    cases q2 with
    | cons r2 q2 =>
    simp only [Tw.hs] at hu
    cases j with
    | zero => exact Tw.eqAt I a1 a2 r1 r2 (by omega)
    | succ j => exact Tw.eqAts I b1 b2 q1 q2 (by omega) j (by simpa using h1) (by simpa using h2)
end
def rEqW : R2 := fun x y H Q => ∃ t fs gs, (Tw.tup t).At H x fs ∧ (Tw.tup t).At H y gs ∧ Tw.hs t ≤ 50 ∧ Q (.bl true) H
def rNeW : R2 := fun x y H Q => ∃ t fs gs, (Tw.tup t).At H x fs ∧ (Tw.tup t).At H y gs ∧ Tw.hs t ≤ 50 ∧ Q (.bl false) H
theorem tw_rc (I : Inv X pins σ H s) {A : Around} {t : List Tw} {x y : V} {v u : Value} {fs gs : List Addr} (rx : RelV x v) (ry : RelV y u) (h1 : (Tw.tup t).At H x fs) (h2 : (Tw.tup t).At H y gs) (hu : A.units + Tw.hs t + 4 < cLine) : SeqAt.RcAt A s v u true ∧ SeqAt.RcNeAt A s v u false := by
  simp only [Tw.At] at h1 h2
  obtain ⟨a, vs, rfl, e1, c1⟩ := h1
  obtain ⟨b, ws, rfl, e2, c2⟩ := h2
  cases rx
  cases ry
  obtain ⟨is1, q1, p1, _⟩ := I.tuple (SqT.of e1)
  obtain ⟨is2, q2, p2, _⟩ := I.tuple (SqT.of e2)
  have hl : is1.length = is2.length := by rw [← q1.length, ← q2.length, c1.len, c2.len]
  have hh : ∀ (j : Nat) (h1 : j < is1.toArray.size) (h2 : j < is2.toArray.size), SeqAt.EqAt A.in1 s is1.toArray[j] is2.toArray[j] ((fun _ => true) j) := fun j h1 h2 => by
    have := Tw.eqAts I (A := A.in1) c1 c2 q1 q2 (by rw [in1_units]; omega) j (by simpa using h1) (by simpa using h2)
    simpa using this
  have k1 := SeqAt.RcAt.tuples (A := A) (s := s) (e := fun _ => true) p1 p2 (by omega) hh
  have k2 := SeqAt.RcNeAt.tuples (A := A) (s := s) (e := fun _ => true) p1 p2 (by omega) hh
  rw [show ((List.range (min is1.toArray.size is2.toArray.size)).all (fun _ => true) && is1.toArray.size == is2.toArray.size) = true by simp [hl]] at k1 k2
  exact ⟨k1, k2⟩
theorem kop_neW (hu : X.A.units + 64 < cLine) : OpR X (compareOp .NotEq) rNeW := by
  intro pins s σ H x y v u Q I rx ry h
  obtain ⟨t, fs, gs, h1, h2, hh, q⟩ := h
  exact (tw_rc I rx ry h1 h2 (A := X.A) (by omega)).2 X.prog X.w X.xe (EP X pins σ Q) ⟨.bl false, H, I, rfl, q⟩
theorem i_neW {H : Hp} {Q : VK} {x y : V} {t : List Tw} {fs gs : List Addr} (h1 : (Tw.tup t).At H x fs) (h2 : (Tw.tup t).At H y gs) (hh : Tw.hs t ≤ 50) (h : Q (.bl false) H) : rNeW x y H Q := ⟨t, fs, gs, h1, h2, hh, h⟩
end
end L2
namespace L2
open PySem PySem.Spec PyProof.Rows
def rInsert0 : V → List V → Hp → VK → Prop := fun x vs H Q => ∃ l xs y, x = .ref l ∧ vs = [.int 0, y] ∧ H l = some (.lst xs) ∧ xs.length < sizeLine ∧ Q .non (upd H l (.lst (y :: xs)))
def rInF (K : PySem.W.Frag) : R2 := fun x y H Q => ∃ (t : Tr) (ts : List Tr) (a : Addr) (vs : List V), t.At H x [] ∧ y = .ref a ∧ SqL K H a vs ∧ Tr.Ats H ts vs [] ∧ t.h ≤ 20 ∧ Tr.hs ts ≤ 20 ∧ Q (.bl (decide (t ∈ ts))) H
def rIndexF (K : PySem.W.Frag) : V → List V → Hp → VK → Prop := fun x us H Q => ∃ (t : Tr) (ts : List Tr) (a : Addr) (vs : List V) (y : V) (j : Nat), x = .ref a ∧ us = [y] ∧ t.At H y [] ∧ SqL K H a vs ∧ Tr.Ats H ts vs [] ∧ t.h ≤ 20 ∧ Tr.hs ts ≤ 20 ∧ ts[j]? = some t ∧ (∀ m, m < j → ts[m]? ≠ some t) ∧ j < 1000000 ∧ Q (.int (j : Nat)) H
def rMaxL (K : PySem.W.Frag) : List V → Hp → VK → Prop := fun xs H Q => ∃ (a : Addr) (ns : List Int), xs = [.ref a] ∧ SqL K H a (ns.map V.int) ∧ 0 < ns.length ∧ ∀ M, M ∈ ns → (∀ a ∈ ns, a ≤ M) → Q (.int M) H
def rRange1 : List V → Hp → VK → Prop := fun xs H Q => ∃ n : Nat, xs = [.int (n : Nat)] ∧ n ≤ 1000000 ∧ New H (.rng 0 (n : Nat)) Q
def rListR : List V → Hp → VK → Prop := fun xs H Q => ∃ (a : Addr) (n : Nat), xs = [.ref a] ∧ H a = some (.rng 0 (n : Nat)) ∧ n ≤ 1000000 ∧ New H (.lst (natsV (List.range n))) Q
section
variable {X : Cx}
theorem mt_insert0 : MtM X "list.insert" rInsert0 := by
  intro pins s σ H x vs v us Q I rx rv h
  obtain ⟨l, xs, y, rfl, rfl, hH, hz, q⟩ := h
  cases rx
  cases rv with
  | cons r1 r2 =>
  cases r2 with
  | cons r2 r3 =>
  cases r3
  obtain ⟨t0, rfl⟩ := r1
  obtain ⟨z, its, n, r, hl, e⟩ := I.lstM hH
  refine call_meets F.slot_list_insert ⟨_, e, rfl⟩ F.entry_list_insert (F.args_list_insert_3 _ _ _) (PySem.AutoSeq1.list_insert_list_int_val_1 l its.toArray n 0 t0 _ (by decide) (by rw [List.size_toArray]; omega)) ⟨e, ?_⟩
  refine ⟨.non, _, I.lset (its' := _ :: its) hH e (by simp) (.cons r2 r) ?_, rfl, q⟩
  rw [List.length_cons]
  omega
end
theorem for_enum {K : PySem.W.Frag} {a : Addr} {xs : List V} {g : TG} {tb : TS} {D : Ends} {σ : St} {H : Hp} (Pv : Nat → St → Hp → Prop) (h0 : Pv 0 σ H) (hl : ∀ i σ H, i ≤ xs.length → Pv i σ H → SqL K H a xs)
    (hs : ∀ i x σ H q H2, xs[i]? = some x → Pv i σ H → Same H H2 → H2 q = some (.tup [.int (i : Nat), x]) → g (.ref q) σ H2 fun σ1 H1 => tb { D with nx := Pv (i + 1), ct := Pv (i + 1), bk := D.nx } σ1 H1)
    (hd : ∀ σ H, Pv xs.length σ H → D.nx σ H) : ForEnd (Ite K a) g tb D σ H := by
  refine ⟨fun i m σ H => m = xs.length - i ∧ i ≤ xs.length ∧ Pv i σ H, ⟨xs.length, by simp, Nat.zero_le _, h0⟩, ?_⟩
  rintro i m σ' H' ⟨rfl, hi, p⟩
  have hq := hl i σ' H' hi p
  by_cases hlt : i < xs.length
  · refine .inr ⟨⟨xs, xs[i], hq, by simp [hlt]⟩, Pv (i + 1), fun σ2 H2 p' => ⟨xs.length - (i + 1), by omega, rfl, hlt, p'⟩, fun v H2 y => ?_⟩
    obtain ⟨q, x, rfl, hn, sm, hT, hx⟩ := y
    exact hs i x σ' H' q H2 (hx xs hq) p sm hT
  · have e : i = xs.length := by omega
    subst e
    exact .inl ⟨⟨xs, hq, Nat.le_refl _⟩, hd σ' H' p⟩
section
variable {K : PySem.W.Frag} {H : Hp} {Q : VK}
theorem i_insert0 {l : Addr} {xs : List V} {y : V} (h1 : H l = some (.lst xs)) (hz : xs.length < sizeLine) (h : Q .non (upd H l (.lst (y :: xs)))) : rInsert0 (.ref l) [.int 0, y] H Q := ⟨l, xs, y, rfl, rfl, h1, hz, h⟩
end
end L2
namespace L2
open PySem PySem.Spec PyProof.Rows
end L2
namespace L2
open PySem PySem.Spec PyProof.Rows
def Itr3 (lo : Int) (n : Nat) : It := ⟨fun i _ => i < n, fun i H x H' => H' = H ∧ x = .int (lo + i * 3), fun i _ => n ≤ i⟩
theorem turn_range3 {P : Program} {w : World} {K : PySem.W.Frag} {tg : Expr} (it : Addr) (lo : Int) (n : Nat) : Turn P w K tg (Itr3 lo n) [it] it (fun i h => IsRangeIter h it (lo + (i : Nat) * 3) ((n : Int) - (i : Nat)) 3) where
  mem := by simp
  obj := fun i h st b hb => by
    have e : b = it := by simpa using hb
    subst e
    exact ⟨_, st, fun v z => by
      have z' : Data.fields _ = Data.cell v := z
      cases z'⟩
  keep := fun i h h' st k => k it (by simp) _ st
  item := by
    intro X hP hw hK hc i pins s σ H E I hf st hg
    subst hP hw hK
    obtain ⟨f0, f1, f2, f3, f4, f5⟩ := hf it (by simp)
    have W := Walks.range (prog := X.prog) (w := X.w) (I.ok.hd hc) it lo 3 n
    refine W.item i s _ _ hg st fun v h' tk hv st' kk => ?_
    obtain ⟨t, rfl⟩ := hv
    have I1 : Inv X pins σ H { s with heap := h', toks := tk } := I.turned (fun b o hb e => kk b o (by simpa using hb) e) f0 f1 f3 f4 f5
    exact ⟨_, rfl, go_of (s := { s with heap := h', toks := tk }) (n := "range_iterator") st' rfl rfl (by decide) ⟨.int (lo + i * 3), H, I1, ⟨t, rfl⟩, ⟨rfl, rfl⟩, st', fun b hb => (hf b hb).1⟩⟩
  done := by
    intro X hP hw hK hc i pins s σ H E I hf st hg
    subst hP hw hK
    obtain ⟨f0, f1, f2, f3, f4, f5⟩ := hf it (by simp)
    exact wpAny_pyNext_range_end (I.ok.hd hc) st (by have : n ≤ i := hg; omega) fun h' eb => ⟨rfl, I.turned (t' := s.toks) (fun b o hb e => eb b o hb e) f0 f1 f3 f4 f5⟩
  self := fun _ _ _ _ _ st h => wpAny_pyIter_rangeiter st h
theorem small_three {a b : Int} (h1 : -(2 ^ 40) ≤ a) (h2 : a < 2 ^ 40) (h3 : -(2 ^ 40) ≤ b) (h4 : b < 2 ^ 40) : Builtin.Range.small a b 3 = true := by
  have hs : 0 ≤ Builtin.Range.rangeSize a b 3 ∧ Builtin.Range.rangeSize a b 3 < 2 ^ 42 := by
    unfold Builtin.Range.rangeSize
    rw [if_pos (by decide)]
    split <;> omega
  unfold Builtin.Range.small
  rw [if_pos (by decide)]
  generalize Builtin.Range.rangeSize a b 3 = z at hs
  simp only [Builtin.Range.rangeFitsLong, Bool.and_eq_true, Bool.or_eq_true, decide_eq_true_eq, beq_iff_eq]
  omega
def many3 (lo hi : Int) : Nat := ((hi - lo + 2) / 3).toNat
section
variable {X : Cx} {tg : Expr}
theorem range_it3 {pins : List (Addr × Obj)} {σ : St} {H : Hp} {s : Shared} {R : It → Hp → Prop} {E : Value → Shared → Prop} {lo hi : Int} {t u v : Tok} (I : Inv X pins σ H s) (h1 : -(2 ^ 40) ≤ lo) (h2 : lo < 2 ^ 40) (h3 : -(2 ^ 40) ≤ hi) (h4 : hi < 2 ^ 40)
    (q : R (Itr3 lo (many3 lo hi)) H) : wpAny (model X.prog X.w) X.A (pyIter (.ref s.heap.objs.size)) (PIE X pins σ tg R) E { s with heap := s.heap.push { cls := .type "range", data := .fields #[.int lo t, .int hi u, .int 3 v] } } := by
  refine wpAny_pyIter_range (IsRange.new ..) (small_three h1 h2 h3 h4) ?_
  have I1 : Inv X pins σ H { s with heap := s.heap.push { cls := .type "range", data := .fields #[.int lo t, .int hi u, .int 3 v] } } := I.kept (t' := s.toks) fun b o e => Heap.get?_push_of_some _ e
  refine ⟨(s.heap.push { cls := .type "range", data := .fields #[.int lo t, .int hi u, .int 3 v] }).objs.size, [(s.heap.push { cls := .type "range", data := .fields #[.int lo t, .int hi u, .int 3 v] }).objs.size], _, _, H, rfl,
    I1.kept (t' := s.toks) fun b o e => Heap.get?_push_of_some _ e, turn_range3 _ lo (many3 lo hi), ?_, fun b hb => ?_, q⟩
  · have e1 : lo + ((0 : Nat) : Int) * 3 = lo := by simp
    have e2 : ((many3 lo hi : Nat) : Int) - ((0 : Nat) : Int) = Builtin.Range.rangeSize lo hi 3 := by
      unfold Builtin.Range.rangeSize many3
      rw [if_pos (by decide)]
      split <;> omega
    show IsRangeIter _ _ (lo + ((0 : Nat) : Int) * 3) (((many3 lo hi : Nat) : Int) - ((0 : Nat) : Int)) 3
    rw [e1, e2]
    exact Heap.get?_push_size _ rfl
  · have e : b = (s.heap.push { cls := .type "range", data := .fields #[.int lo t, .int hi u, .int 3 v] }).objs.size := by simpa using hb
    subst e
    exact I1.fpOk (Nat.le_refl _) (I1.hok.fresh (Nat.le_refl _))
def iRng3 (ta : TA) : TI := fun σ H R => ta σ H fun vs H1 => ∃ i j : Int, vs = [.int i, .int j, .int 3] ∧ (-(2 ^ 40) ≤ i ∧ i < 2 ^ 40 ∧ -(2 ^ 40) ≤ j ∧ j < 2 ^ 40) ∧ R (Itr3 i (many3 i j)) H1
theorem pi_range3 {a b c : Expr} {ta : TA} {p pos : Pos} (hg : Gl X "range") (hm : X.mg "range" = none) (ha : PA X [a, b, c] ta) (hs : starEach [a, b, c] X.env = [(false, eval a X.env), (false, eval b X.env), (false, eval c X.env)] := by rfl) (hs2 : starEach [b, c] X.env = [(false, eval b X.env), (false, eval c X.env)] := by rfl) :
    PI X tg (.Call (.Name "range" p) [a, b, c] [] pos) (iRng3 ta) := by
  intro pins s σ H R I h
  refine Call_ (ld_blt I hg hm boot_range (PyProof.Rows.callWith_type1 (thn (ha pos pins s σ H _ I h) fun us s1 ⟨vs, H1, I1, r1, q1⟩ => ?_) (by rw [hs, hs2]) (by rw [hs2]; rfl)))
  obtain ⟨i, j, e, ⟨q1, q2, q3, q4⟩, q⟩ := q1
  subst e
  cases r1 with
  | cons r rr =>
    cases rr with
    | cons r' rr =>
      cases rr with
      | cons r'' rr =>
        cases rr
        obtain ⟨t, rfl⟩ := r
        obtain ⟨t', rfl⟩ := r'
        obtain ⟨t'', rfl⟩ := r''
        exact call_range_3 (by decide) (range_it3 I1 q1 q2 q3 q4 q)
end
section
variable {σ : St} {H : Hp} {R : It → Hp → Prop} {ts : TA}
theorem i_rng3 (h : ts σ H fun vs H1 => ∃ i j : Int, vs = [.int i, .int j, .int 3] ∧ (-(2 ^ 40) ≤ i ∧ i < 2 ^ 40 ∧ -(2 ^ 40) ≤ j ∧ j < 2 ^ 40) ∧ R (Itr3 i (many3 i j)) H1) : iRng3 ts σ H R := h
theorem i_rng2 (h : ts σ H fun vs H1 => ∃ i j : Int, vs = [.int i, .int j] ∧ (-(2 ^ 62) ≤ i ∧ i < 2 ^ 62 ∧ -(2 ^ 62) ≤ j ∧ j < 2 ^ 62) ∧ R (Itr i (j - i).toNat) H1) : iRng2 ts σ H R := h
end
theorem for_range3 {lo : Int} {n : Nat} {g : TG} {tb : TS} {D : Ends} {σ : St} {H : Hp} (Pv : Nat → St → Hp → Prop) (h0 : Pv 0 σ H)
    (hs : ∀ i σ H, i < n → Pv i σ H → g (.int (lo + i * 3)) σ H fun σ2 H2 => tb { D with nx := Pv (i + 1), ct := Pv (i + 1), bk := D.nx } σ2 H2) (hd : ∀ σ H, Pv n σ H → D.nx σ H) : ForEnd (Itr3 lo n) g tb D σ H := by
  refine ⟨fun i m σ H => m = n - i ∧ i ≤ n ∧ Pv i σ H, ⟨n, by simp, Nat.zero_le _, h0⟩, ?_⟩
  rintro i m σ H ⟨rfl, hi, p⟩
  by_cases hlt : i < n
  · refine .inr ⟨hlt, Pv (i + 1), fun σ' H' p' => ⟨n - (i + 1), by omega, rfl, hlt, p'⟩, fun x H' y => ?_⟩
    obtain ⟨e, y⟩ := y
    subst e y
    exact hs i σ _ hlt p
  · have e : i = n := by omega
    subst e
    exact .inl ⟨Nat.le_refl _, hd σ H p⟩
theorem cc_range3 {lo : Int} {n : Nat} {te : TE} {tt : TT} {caps : List Nat} {σ : St} {H : Hp} {Q : VK} (hz : n ≤ sizeLine) (Pv : Nat → List V → Hp → Prop) (h0 : Pv 0 [] H) (hl : ∀ i acc H, Pv i acc H → acc.length ≤ i)
    (hs : ∀ i acc H, i < n → Pv i acc H → tt (some (.int (lo + i * 3)) :: capV caps σ) H fun b H4 => if b = true then te (some (.int (lo + i * 3)) :: capV caps σ) H4 fun y H5 => Pv (i + 1) (acc ++ [y]) H5 else Pv (i + 1) acc H4)
    (hd : ∀ acc H, Pv n acc H → New H (.lst acc) Q) : CompEnd (Itr3 lo n) (gName 0) tt te 1 caps σ H Q := by
  refine lc_any n hz Pv h0 hl (fun i acc H hi p => hi) (fun acc H p => Nat.le_refl _) ?_ hd
  rintro i x acc H1 H2 hi p ⟨rfl, rfl⟩
  exact hs i acc _ hi p
def relabelS (scope sc0 : Scope) : Scope := relabel scope { scope := sc0, locals := 0, globals := 0, cells := [] }
theorem cxC_scope {X : Cx} {N : List Str} {scope sc0 : Scope} {cl : List (Str × Addr)} {C : Addr} {s0 : Shared} {H0 : Hp} {ex : List Addr} (h : X.env.scope = sc0) : (cxC X N scope cl C s0 H0 ex).env.scope = relabelS scope sc0 := by
  subst h
  rfl
theorem i_augE {i : Nat} {t : TE} {f : Int → Int → Int} {σ : St} {H : Hp} {nn bb cc : St → Hp → Prop} {rr : VK} {a : Int} (e : σ[i]? = some (some (.int a))) (h : t σ H fun x H1 => ∃ b : Int, x = .int b ∧ nn (σ.set i (some (.int (f a b)))) H1) : tAug i t (ipI f) ⟨nn, rr, bb, cc⟩ σ H := ⟨_, e, by
  have h' : t σ H fun y H1 => ipI f (.int a) y H1 fun z H2 => nn (σ.set i (some z)) H2 := by
    have : (fun x H1 => ∃ b : Int, x = .int b ∧ nn (σ.set i (some (.int (f a b)))) H1) = fun y H1 => ipI f (.int a) y H1 fun z H2 => nn (σ.set i (some z)) H2 := by
      funext y H1
      apply propext
      constructor
      · rintro ⟨b, rfl, h⟩; exact ⟨a, b, rfl, rfl, h⟩
      · rintro ⟨a', b, e1, rfl, h⟩; cases e1; exact ⟨b, rfl, h⟩
    rw [← this]
    exact h
  exact h'⟩
end L2
local macro_rules | `(tactic| walk_at "read") => `(tactic| simp only [L2.tSeq, L2.tAsg, L2.tOp, L2.tUn, L2.rU, L2.tVar, L2.tC, L2.rPlus, L2.rTimes, L2.rI, L2.rI0, L2.tRet, L2.tRetN, L2.gName, L2.tIfS, L2.tTest, L2.rEq, L2.rNe, L2.scal, L2.tNot, L2.tAnd, L2.tOr, L2.tAndV, L2.tOrV, L2.tNotV, L2.tIf, L2.tNext, L2.tDrop,
  L2.tCons, L2.tNil, L2.tCall, L2.tCB, L2.tChain, L2.rStr, L2.tFmt, L2.tJoin, L2.iRng1, L2.iRng2, L2.tFor_def, L2.iList, L2.iTup, L2.iStr, L2.tLst, L2.tTup, L2.tBM, L2.tBM0, L2.tyV, L2.rJoin, L2.rFind, L2.rUpper, L2.rIx, L2.rIxL, L2.rIxT, L2.rIxS, L2.tSl, L2.tNoPart, L2.tPart, L2.rSlL, L2.TruV, L2.LenV, L2.tLC_def, L2.cxOf_K, L2.cxC_K, L2.tNoIf, L2.cSt, L2.capV,
  L2.start, List.map_cons, List.map_nil, List.length_cons, List.length_nil, List.replicate, List.cons_append, List.nil_append, List.append_nil, List.getElem?_cons_zero, List.getElem?_cons_succ, List.set_cons_zero, List.set_cons_succ, Option.some.injEq, Nat.reduceSub, Nat.reduceAdd,
  L2.ex_self_and, L2.ex_some_and, L2.ex_int, L2.ex_str, L2.ex_bl, L2.ex_ref, exists_and_left, exists_eq_left', exists_eq_left, L2.V.int.injEq, L2.V.str.injEq, L2.V.bl.injEq, L2.V.ref.injEq, L2.V.ty.injEq, List.cons.injEq, and_true, true_and, reduceCtorEq, false_and, and_false, exists_false, or_false, false_or, exists_const, Bool.not_true, Bool.not_false, if_true, if_false, ite_true, ite_false, Bool.false_eq_true])
local macro_rules | `(tactic| walk_at "side") => `(tactic| first | exact ⟨by decide, by decide, by decide⟩ | exact ⟨by decide, by decide⟩ | exact .inr (.inr ⟨by decide, by decide⟩) | exact .inr (.inl ⟨by decide, by decide⟩) | decide | omega | exact L2.le_line (by simp only [List.length_cons, List.length_nil]; omega))
local macro_rules | `(tactic| walk_at "step") => `(tactic| first
  | with_reducible refine L2.i_seq ?_ | with_reducible refine L2.i_asg ?_ | ((with_reducible refine L2.i_name ?_); dsimp only [List.set_cons_zero, List.set_cons_succ]) | ((with_reducible refine' L2.i_var ?k ?_); (case k => rfl)) | with_reducible refine L2.i_c ?_ | with_reducible refine L2.i_op ?_
  | with_reducible refine L2.i_un ?_ | with_reducible refine L2.i_rU ?_ | with_reducible refine L2.i_rI0 ?_ | ((with_reducible refine L2.i_rI ?k ?_); (case k => walk_at "side")) | with_reducible refine L2.i_plusI ?_ | ((with_reducible refine L2.i_timesI ?k ?_); (case k => walk_at "side"))
  | with_reducible refine L2.i_eqI ?_ | with_reducible refine L2.i_eqS ?_ | with_reducible refine L2.i_eqB ?_ | with_reducible refine L2.i_neI ?_ | with_reducible refine L2.i_neS ?_ | with_reducible refine L2.i_neB ?_
  | with_reducible refine L2.i_test ?_ | with_reducible refine L2.i_bl ?_ | with_reducible refine L2.i_ifS ?_ | with_reducible refine L2.i_if ?_ | with_reducible refine L2.i_ret ?_ | with_reducible refine L2.i_retN ?_ | with_reducible refine L2.i_next ?_ | with_reducible refine L2.i_drop ?_ | with_reducible refine L2.i_break ?_ | with_reducible refine L2.i_cont ?_
  | with_reducible refine L2.i_cons ?_ | with_reducible refine L2.i_nil ?_ | with_reducible refine L2.i_cb ?_ | (with_reducible refine L2.i_call ?_) | with_reducible refine L2.i_lst ?_ | with_reducible refine L2.i_tup ?_ | with_reducible refine L2.i_not ?_ | with_reducible refine L2.i_noIf ?_ | with_reducible refine L2.i_and ?_ | with_reducible refine L2.i_or ?_
  | with_reducible refine L2.i_andV ?_ | with_reducible refine L2.i_orV ?_ | with_reducible refine L2.i_notV ?_ | with_reducible refine L2.i_strS ?_ | with_reducible refine L2.i_for ?_ | with_reducible refine L2.i_lc ?_ | with_reducible refine L2.i_rng1 ?_ | with_reducible refine L2.i_iList ?_ | with_reducible refine L2.i_iTup ?_ | with_reducible refine L2.i_iStr ?_ | with_reducible refine L2.i_iSeq ?_ | with_reducible refine L2.i_joinC ?_ | with_reducible refine L2.i_fmt ?_ | with_reducible refine L2.i_fmS ?_ | with_reducible refine L2.i_fmI ?_
  | with_reducible refine L2.i_rng ?_ | with_reducible refine L2.i_ref ?_ | with_reducible refine L2.i_sx ?_ | with_reducible refine L2.i_bm ?_ | with_reducible refine L2.i_bm0 ?_ | with_reducible refine L2.i_tyS ?_ | with_reducible refine L2.i_sl ?_ | with_reducible refine L2.i_nopart ?_ | with_reducible refine L2.i_part ?_ | with_reducible refine L2.i_ix1 ?_
  | with_reducible refine L2.i_itT ?_ | with_reducible refine L2.i_itF ?_ | with_reducible refine L2.i_itnT ?_ | with_reducible refine L2.i_itnF ?_ | with_reducible refine L2.i_truB ?_ | with_reducible refine L2.i_chain ?_ | with_reducible refine L2.i_intB ?_ | with_reducible refine L2.i_isB ?_ | with_reducible refine L2.i_gnil ?_ | with_reducible refine L2.i_gcons ?_ | with_reducible refine L2.i_find ?_ | with_reducible refine L2.i_isiS ?_ | with_reducible refine L2.i_isiB ?_ | with_reducible refine L2.i_isiI ?_ | with_reducible refine L2.i_isiIB ?_ | with_reducible refine L2.i_tru ?_ | with_reducible refine L2.i_intI ?_ | with_reducible refine L2.i_inS ?_ | with_reducible refine L2.i_isN ?_ | with_reducible refine L2.i_notN ?_ | with_reducible refine L2.i_enum ?_ | with_reducible refine L2.i_lref ?_ | with_reducible refine L2.i_min2 ?_ | with_reducible refine L2.i_dget ?_ | with_reducible refine L2.i_gsub ?_ | with_reducible refine L2.i_tB ?_ | with_reducible refine L2.i_din ?_ | with_reducible refine L2.i_dnotin ?_ | with_reducible refine L2.i_dput ?_ | with_reducible refine L2.i_dnew ?_ | with_reducible refine L2.i_isTT ?_ | with_reducible refine L2.i_isTF ?_ | with_reducible refine L2.i_isFT ?_ | with_reducible refine L2.i_isFF ?_ | with_reducible refine L2.i_isCr ?_ | with_reducible refine L2.i_zip ?_ | with_reducible refine L2.i_tnew ?_ | with_reducible refine L2.i_tget ?_ | with_reducible refine L2.i_tin ?_ | with_reducible refine L2.i_tnotin ?_ | with_reducible refine L2.i_tput ?_ | with_reducible refine L2.i_tget1 ?_ | with_reducible refine L2.i_tget2 ?_ | with_reducible refine L2.i_tsetd ?_ | with_reducible refine L2.i_fld ?_ | with_reducible refine L2.i_sfld ?_ | with_reducible refine L2.i_meth ?_ | with_reducible refine L2.i_make ?_ | with_reducible refine L2.i_rng2 ?_ | with_reducible refine L2.i_rng3 ?_
  | ((with_reducible refine L2.i_szA ?k ?_); (case k => walk_at "side")) | ((with_reducible refine L2.i_rgA ?k ?l ?_); (case k => walk_at "side"); (case l => walk_at "side")))
local macro_rules | `(tactic| walk_at "run") => `(tactic| (repeat walk_at "step"))
local macro_rules | `(tactic| walk_at "go") => `(tactic| (simp only [L2.start, List.map_cons, List.map_nil, List.length_cons, List.length_nil, List.replicate, List.cons_append, List.nil_append, Nat.reduceSub, Nat.reduceAdd, L2.nox_K, L2.wish_K, L2.cxOf_K, L2.cxC_K]; walk_at "run"))
namespace K74
open PySem L2
def top (i : Nat) : Stmt := PySem.Challenge.pw_callmill_k74_whole_machine_of_other_cell.main.body.getD i (.Pass ⟨0, 0, 0, 0⟩)
abbrev s_block_places : Stmt := top 4
abbrev s_texts_at : Stmt := top 5
abbrev s_cells_in : Stmt := top 6
abbrev s_others_in : Stmt := top 7
abbrev s_places_by : Stmt := top 9
abbrev s_place_of : Stmt := top 10
abbrev s_PackMachine___init__ : Stmt := inClass (top 12) 0
abbrev s_PackMachine_begin : Stmt := inClass (top 12) 1
abbrev s_PackMachine_step : Stmt := inClass (top 12) 2
abbrev s_PackMachine_over : Stmt := inClass (top 12) 3
abbrev s_PackMachine_values : Stmt := inClass (top 12) 4
abbrev s_PackMachine_said_by : Stmt := inClass (top 12) 5
abbrev s_law_take : Stmt := top 14
abbrev s_law_cell : Stmt := top 15
abbrev s_law_events : Stmt := top 16
abbrev s_law_shape : Stmt := top 17
abbrev s_law_parts : Stmt := top 18
abbrev s_law_cells : Stmt := top 19
abbrev s_law_due : Stmt := top 20
abbrev s_law : Stmt := top 21
theorem sc_block_places : FnScope ["cells", "place", "count", "found"] ["cells", "place", "count"] (defScope s_block_places) := ⟨rfl, rfl, rfl, by decide +kernel, rfl, by decide +kernel, by decide +kernel⟩
theorem sc_texts_at : FnScope ["texts", "cells", "place"] ["texts", "cells", "place"] (defScope s_texts_at) := ⟨rfl, rfl, rfl, by decide +kernel, rfl, by decide +kernel, by decide +kernel⟩
theorem sc_cells_in : FnScope ["cells", "place"] ["cells", "place"] (defScope s_cells_in) := ⟨rfl, rfl, rfl, by decide +kernel, rfl, by decide +kernel, by decide +kernel⟩
theorem sc_others_in : FnScope ["shape"] ["shape"] (defScope s_others_in) := ⟨rfl, rfl, rfl, by decide +kernel, rfl, by decide +kernel, by decide +kernel⟩
theorem sc_places_by : FnScope ["events", "places", "place", "event"] ["events"] (defScope s_places_by) := ⟨rfl, rfl, rfl, by decide +kernel, rfl, by decide +kernel, by decide +kernel⟩
theorem sc_place_of : FnScope ["places", "event"] ["places", "event"] (defScope s_place_of) := ⟨rfl, rfl, rfl, by decide +kernel, rfl, by decide +kernel, by decide +kernel⟩
theorem sc_PackMachine___init__ : FnScope ["self", "pack"] ["self", "pack"] (defScope s_PackMachine___init__) := ⟨rfl, rfl, rfl, by decide +kernel, rfl, by decide +kernel, by decide +kernel⟩
theorem sc_PackMachine_begin : FnScope ["self"] ["self"] (defScope s_PackMachine_begin) := ⟨rfl, rfl, rfl, by decide +kernel, rfl, by decide +kernel, by decide +kernel⟩
theorem sc_PackMachine_step : FnScope ["self", "standing", "event", "shape", "event_place", "place", "saying", "way"] ["self", "standing", "event"] (defScope s_PackMachine_step) := ⟨rfl, rfl, rfl, by decide +kernel, rfl, by decide +kernel, by decide +kernel⟩
theorem sc_PackMachine_over : FnScope ["self", "standing"] ["self", "standing"] (defScope s_PackMachine_over) := ⟨rfl, rfl, rfl, by decide +kernel, rfl, by decide +kernel, by decide +kernel⟩
theorem sc_PackMachine_values : FnScope ["self", "standing"] ["self", "standing"] (defScope s_PackMachine_values) := ⟨rfl, rfl, rfl, by decide +kernel, rfl, by decide +kernel, by decide +kernel⟩
theorem sc_PackMachine_said_by : FnScope ["self", "saying"] ["self", "saying"] (defScope s_PackMachine_said_by) := ⟨rfl, rfl, rfl, by decide +kernel, rfl, by decide +kernel, by decide +kernel⟩
theorem sc_law_take : FnScope ["state", "many", "found"] ["state", "many"] (defScope s_law_take) := ⟨rfl, rfl, rfl, by decide +kernel, rfl, by decide +kernel, by decide +kernel⟩
theorem sc_law_cell : FnScope ["script", "k", "mixed"] ["script", "k", "mixed"] (defScope s_law_cell) := ⟨rfl, rfl, rfl, by decide +kernel, rfl, by decide +kernel, by decide +kernel⟩
theorem sc_law_events : FnScope ["state", "keys", "words"] ["state"] (defScope s_law_events) := ⟨rfl, rfl, rfl, by decide +kernel, rfl, by decide +kernel, by decide +kernel⟩
theorem sc_law_shape : FnScope ["state", "events", "says", "rooms", "shape", "place"] ["state", "events", "says", "rooms"] (defScope s_law_shape) := ⟨rfl, rfl, rfl, by decide +kernel, rfl, by decide +kernel, by decide +kernel⟩
theorem sc_law_parts : FnScope ["script", "mixed", "events", "texts", "first", "rooms", "says", "sayings", "shapes", "k", "told", "own"] ["script", "mixed", "events", "texts"] (defScope s_law_parts) := ⟨rfl, rfl, rfl, by decide +kernel, rfl, by decide +kernel, by decide +kernel⟩
theorem sc_law_cells : FnScope ["parts", "rooms", "shapes", "sayings", "saying", "cells", "block"] ["parts"] (defScope s_law_cells) := ⟨rfl, rfl, rfl, by decide +kernel, rfl, by decide +kernel, by decide +kernel⟩
theorem sc_law_due : FnScope ["parts", "texts", "room", "place", "shape", "pair", "at"] ["parts", "texts", "room", "place"] (defScope s_law_due) := ⟨rfl, rfl, rfl, by decide +kernel, rfl, by decide +kernel, by decide +kernel⟩
theorem sc_law : FnScope ["script", "mixed", "first", "events", "texts", "parts", "told", "machine", "room", "place", "cell", "due"] ["script"] (defScope s_law) := ⟨rfl, rfl, rfl, by decide +kernel, rfl, by decide +kernel, by decide +kernel⟩
structure Adr where
  a_block_places : Addr
  fd_block_places : FuncData
  a_texts_at : Addr
  fd_texts_at : FuncData
  a_cells_in : Addr
  fd_cells_in : FuncData
  a_others_in : Addr
  fd_others_in : FuncData
  a_places_by : Addr
  fd_places_by : FuncData
  a_place_of : Addr
  fd_place_of : FuncData
  a_PackMachine___init__ : Addr
  fd_PackMachine___init__ : FuncData
  a_PackMachine_begin : Addr
  fd_PackMachine_begin : FuncData
  a_PackMachine_step : Addr
  fd_PackMachine_step : FuncData
  a_PackMachine_over : Addr
  fd_PackMachine_over : FuncData
  a_PackMachine_values : Addr
  fd_PackMachine_values : FuncData
  a_PackMachine_said_by : Addr
  fd_PackMachine_said_by : FuncData
  a__law_take : Addr
  fd__law_take : FuncData
  a__law_cell : Addr
  fd__law_cell : FuncData
  a__law_events : Addr
  fd__law_events : FuncData
  a__law_shape : Addr
  fd__law_shape : FuncData
  a__law_parts : Addr
  fd__law_parts : FuncData
  a__law_cells : Addr
  fd__law_cells : FuncData
  a__law_due : Addr
  fd__law_due : FuncData
  a_law : Addr
  fd_law : FuncData
  c_Machine : Addr
  c_PackMachine : Addr
  u_HEAD : Value
structure Txt (K : PySem.W.Frag) (mg : Str → Option Value) (t : Adr) : Prop where
  F_block_places : Fun K "block_places" "block_places" s_block_places t.a_block_places t.fd_block_places
  m_block_places : mg "block_places" = some (.ref t.a_block_places)
  b_block_places : Binds K t.fd_block_places ["cells", "place", "count"] []
  F_texts_at : Fun K "texts_at" "texts_at" s_texts_at t.a_texts_at t.fd_texts_at
  m_texts_at : mg "texts_at" = some (.ref t.a_texts_at)
  b_texts_at : Binds K t.fd_texts_at ["texts", "cells", "place"] []
  F_cells_in : Fun K "cells_in" "cells_in" s_cells_in t.a_cells_in t.fd_cells_in
  m_cells_in : mg "cells_in" = some (.ref t.a_cells_in)
  b_cells_in : Binds K t.fd_cells_in ["cells", "place"] []
  F_others_in : Fun K "others_in" "others_in" s_others_in t.a_others_in t.fd_others_in
  m_others_in : mg "others_in" = some (.ref t.a_others_in)
  b_others_in : Binds K t.fd_others_in ["shape"] []
  F_places_by : Fun K "places_by" "places_by" s_places_by t.a_places_by t.fd_places_by
  m_places_by : mg "places_by" = some (.ref t.a_places_by)
  b_places_by : Binds K t.fd_places_by ["events"] []
  F_place_of : Fun K "place_of" "place_of" s_place_of t.a_place_of t.fd_place_of
  m_place_of : mg "place_of" = some (.ref t.a_place_of)
  b_place_of : Binds K t.fd_place_of ["places", "event"] []
  F_PackMachine___init__ : Fun K "__init__" "PackMachine.__init__" s_PackMachine___init__ t.a_PackMachine___init__ t.fd_PackMachine___init__
  b_PackMachine___init__ : Binds K t.fd_PackMachine___init__ ["self", "pack"] []
  F_PackMachine_begin : Fun K "begin" "PackMachine.begin" s_PackMachine_begin t.a_PackMachine_begin t.fd_PackMachine_begin
  M_PackMachine_begin : Meth K t.c_PackMachine "begin" t.a_PackMachine_begin
  b_PackMachine_begin : Binds K t.fd_PackMachine_begin ["self"] []
  F_PackMachine_step : Fun K "step" "PackMachine.step" s_PackMachine_step t.a_PackMachine_step t.fd_PackMachine_step
  M_PackMachine_step : Meth K t.c_PackMachine "step" t.a_PackMachine_step
  b_PackMachine_step : Binds K t.fd_PackMachine_step ["self", "standing", "event"] []
  F_PackMachine_over : Fun K "over" "PackMachine.over" s_PackMachine_over t.a_PackMachine_over t.fd_PackMachine_over
  M_PackMachine_over : Meth K t.c_PackMachine "over" t.a_PackMachine_over
  b_PackMachine_over : Binds K t.fd_PackMachine_over ["self", "standing"] []
  F_PackMachine_values : Fun K "values" "PackMachine.values" s_PackMachine_values t.a_PackMachine_values t.fd_PackMachine_values
  M_PackMachine_values : Meth K t.c_PackMachine "values" t.a_PackMachine_values
  b_PackMachine_values : Binds K t.fd_PackMachine_values ["self", "standing"] []
  F_PackMachine_said_by : Fun K "said_by" "PackMachine.said_by" s_PackMachine_said_by t.a_PackMachine_said_by t.fd_PackMachine_said_by
  M_PackMachine_said_by : Meth K t.c_PackMachine "said_by" t.a_PackMachine_said_by
  b_PackMachine_said_by : Binds K t.fd_PackMachine_said_by ["self", "saying"] []
  F__law_take : Fun K "_law_take" "_law_take" s_law_take t.a__law_take t.fd__law_take
  m__law_take : mg "_law_take" = some (.ref t.a__law_take)
  b__law_take : Binds K t.fd__law_take ["state", "many"] []
  F__law_cell : Fun K "_law_cell" "_law_cell" s_law_cell t.a__law_cell t.fd__law_cell
  m__law_cell : mg "_law_cell" = some (.ref t.a__law_cell)
  b__law_cell : Binds K t.fd__law_cell ["script", "k", "mixed"] []
  F__law_events : Fun K "_law_events" "_law_events" s_law_events t.a__law_events t.fd__law_events
  m__law_events : mg "_law_events" = some (.ref t.a__law_events)
  b__law_events : Binds K t.fd__law_events ["state"] []
  F__law_shape : Fun K "_law_shape" "_law_shape" s_law_shape t.a__law_shape t.fd__law_shape
  m__law_shape : mg "_law_shape" = some (.ref t.a__law_shape)
  b__law_shape : Binds K t.fd__law_shape ["state", "events", "says", "rooms"] []
  F__law_parts : Fun K "_law_parts" "_law_parts" s_law_parts t.a__law_parts t.fd__law_parts
  m__law_parts : mg "_law_parts" = some (.ref t.a__law_parts)
  b__law_parts : Binds K t.fd__law_parts ["script", "mixed", "events", "texts"] []
  F__law_cells : Fun K "_law_cells" "_law_cells" s_law_cells t.a__law_cells t.fd__law_cells
  m__law_cells : mg "_law_cells" = some (.ref t.a__law_cells)
  b__law_cells : Binds K t.fd__law_cells ["parts"] []
  F__law_due : Fun K "_law_due" "_law_due" s_law_due t.a__law_due t.fd__law_due
  m__law_due : mg "_law_due" = some (.ref t.a__law_due)
  b__law_due : Binds K t.fd__law_due ["parts", "texts", "room", "place"] []
  F_law : Fun K "law" "law" s_law t.a_law t.fd_law
  m_law : mg "law" = some (.ref t.a_law)
  b_law : Binds K t.fd_law ["script"] []
  m_Machine : mg "Machine" = some (.ref t.c_Machine)
  m_PackMachine : mg "PackMachine" = some (.ref t.c_PackMachine)
  cl_PackMachine : Cls K t.c_PackMachine
  mk_PackMachine : Mk K t.c_PackMachine t.a_PackMachine___init__
  n_PackMachine_cells : NoAttr K t.c_PackMachine "cells"
  n_PackMachine_places : NoAttr K t.c_PackMachine "places"
  n_PackMachine_sayings : NoAttr K t.c_PackMachine "sayings"
  n_PackMachine_shapes : NoAttr K t.c_PackMachine "shapes"
  n_PackMachine_texts : NoAttr K t.c_PackMachine "texts"
  z_enumerate : mg "enumerate" = none
  z_len : mg "len" = none
  z_list : mg "list" = none
  z_min : mg "min" = none
  z_range : mg "range" = none
  z_sum : mg "sum" = none
  z_tuple : mg "tuple" = none
  m_HEAD : mg "HEAD" = some t.u_HEAD
  r_HEAD : RelV (.int 4) t.u_HEAD
section
variable {P : Program} {w : World} {K : PySem.W.Frag} {mg : Str → Option Value} {base : Heap} {t : Adr}
def Oth (s : Addr) (H H' : Hp) : Prop := ∀ y o, y ≠ s → H y = some o → H' y = some o
def StA (H : Hp) (s : Addr) (z : Int) : Prop := ∃ x : Int, H s = some (.lst [.int x, .int z])
theorem Oth.refl {s : Addr} {H : Hp} : Oth s H H := fun _ _ _ e => e
theorem Oth.trans {s : Addr} {H H1 H2 : Hp} (a : Oth s H H1) (b : Oth s H1 H2) : Oth s H H2 := fun c o h e => b c o h (a c o h e)
theorem oth_same {s : Addr} {H H' : Hp} (h : Same H H') : Oth s H H' := fun c o _ e => h c o e
theorem Oth.tups {s : Addr} {H H' : Hp} {z : Int} (f : Oth s H H') (k : StA H s z) : Tups H H' := fun b ys e => by
  obtain ⟨x, h⟩ := k
  exact f b _ (ne_of e h (fun z => nomatch z)) e
theorem Oth.keep {s : Addr} {H H' : Hp} {z : Int} {fs : List Addr} (f : Oth s H H') (k : StA H s z) (hn : s ∉ fs) : Keep fs H H' := ⟨f.tups k, fun a ha xs e => f a _ (fun q => hn (q ▸ ha)) e⟩
theorem Oth.new {s : Addr} {H0 H H' : Hp} (f : Oth s H H') (h : Same H0 H) (hs : H0 s = none) : Same H0 H' := fun b o e => f b o (ne_of_none e hs) (h b o e)
theorem StA.same {H H' : Hp} {s : Addr} {z : Int} (k : StA H s z) (h : Same H H') : StA H' s z := by
  obtain ⟨x, e⟩ := k
  exact ⟨x, h _ _ e⟩
theorem Oth.free {s p : Addr} {H H' : Hp} {z : Int} (f : Oth s H H') (k : StA H' s z) (h : H' p = none) : H p = none := by
  cases e : H p with
  | none => rfl
  | some o =>
    obtain ⟨x, hs⟩ := k
    rw [f p o (fun q => by rw [q, hs] at h; cases h) e] at h
    cases h
theorem mod_nat (x : Int) {m : Nat} (h : 0 < m) : ∃ r : Nat, r < m ∧ x % (m : Int) = (r : Nat) := ⟨(x % (m : Int)).toNat, by
  have h1 := Int.emod_nonneg x (show (m : Int) ≠ 0 by omega)
  have h2 := Int.emod_lt_of_pos x (show (0 : Int) < (m : Int) by omega)
  omega, by
  have h1 := Int.emod_nonneg x (show (m : Int) ≠ 0 by omega)
  omega⟩
theorem cb {i j : Int} (h1 : -1000000000000000000 < i) (h2 : i < 1000000000000000000) : CBig i j := .inr (.inl ⟨by omega, by omega⟩)
theorem cb2 {i j : Int} (h1 : -1000000000000000000 < j) (h2 : j < 1000000000000000000) : CBig i j := .inr (.inr ⟨by omega, by omega⟩)
def sp_take (K : PySem.W.Frag) : Sp := fun vs H Q _ => ∃ (s : Addr) (z : Int) (m : Nat), vs = [.ref s, .int (m : Nat)] ∧ StA H s z ∧ 0 < m ∧ m ≤ 1000 ∧ ∀ (r : Nat) H', r < m → Oth s H H' → StA H' s z → Q (.int (r : Nat)) H'
theorem ok_law_take (T : Txt K mg t) : FnOk P w K mg base CX0 1 t.a__law_take t.fd__law_take ["state", "many"] (sp_take K) := by
  refine T.F__law_take.ok sc_law_take (fun vs H Q E h => ?_) (fun cdv A outer s H vs Q E hr h => ?_)
  · obtain ⟨s, z, m, rfl, _⟩ := h
    rfl
  · obtain ⟨s0, z, m, rfl, ⟨x, hs⟩, hm, hm2, q⟩ := h
    refine ⟨_, (@pss_cons _ _ _ _ _ (@ps_if _ _ _ _ _ _ _ _ (@pt_cmpR _ _ _ _ _ _ _ _ op_eq (@pe_ix _ _ _ _ _ _ _ (kix_list K) (pv 0) (@pe_int _ _ _ _) (fun _ _ => rfl)) (@pe_int _ _ _ _) (nomark _)) (@pss_cons _ _ _ _ _ (@ps_asg _ _ _ _ _ _ (@pe_op _ _ _ _ _ _ _ _ op_mod (@pe_op _ _ _ _ _ _ _ _ op_times (@pe_op _ _ _ _ _ _ _ _ op_plus (@pe_ix _ _ _ _ _ _ _ (kix_list K) (pv 0) (@pe_int _ _ _ _) (fun _ _ => rfl)) (@pe_int _ _ _ _)) (@pe_int _ _ _ _)) (@pe_int _ _ _ _)) (pg_sub (pv 0) (@pe_int _ _ _ _) set_list) (by rfl) (by rfl) (by rfl))
        (@pss_cons _ _ _ _ _ (@ps_asg _ _ _ _ _ _ (@pe_op _ _ _ _ _ _ _ _ op_mod (@pe_op _ _ _ _ _ _ _ _ op_times (@pe_ix _ _ _ _ _ _ _ (kix_list K) (pv 0) (@pe_int _ _ _ _) (fun _ _ => rfl)) (@pe_ix _ _ _ _ _ _ _ (kix_list K) (pv 0) (@pe_int _ _ _ _) (fun _ _ => rfl))) (@pe_int _ _ _ _)) (pg_sub (pv 0) (@pe_int _ _ _ _) set_list) (by rfl) (by rfl) (by rfl))
        (@pss_one _ _ _ (@ps_ret _ _ _ _ (@pe_op _ _ _ _ _ _ _ _ op_mod (@pe_op _ _ _ _ _ _ _ _ op_fdiv (@pe_op _ _ _ _ _ _ _ _ op_mod (@pe_op _ _ _ _ _ _ _ _ op_times (@pe_ix _ _ _ _ _ _ _ (kix_list K) (pv 0) (@pe_int _ _ _ _) (fun _ _ => rfl)) (@pe_int _ _ _ _)) (@pe_int _ _ _ _)) (@pe_int _ _ _ _)) (pv 1)))))) (@pss_nil _))
      (@pss_cons _ _ _ _ _ (@ps_set _ _ 2 _ _ _ _ sc_law_take.nd rfl (by first | exact Or.inl rfl | exact Or.inr rfl) (@pe_op _ _ _ _ _ _ _ _ op_mod (@pe_ix _ _ _ _ _ _ _ (kix_list K) (pv 0) (@pe_int _ _ _ _) (fun _ _ => rfl)) (pv 1)) (by rfl) (by first | exact Or.inl rfl | exact Or.inr rfl))
      (@pss_cons _ _ _ _ _ (@ps_asg _ _ _ _ _ _ (@pe_op _ _ _ _ _ _ _ _ op_fdiv (@pe_ix _ _ _ _ _ _ _ (kix_list K) (pv 0) (@pe_int _ _ _ _) (fun _ _ => rfl)) (pv 1)) (pg_sub (pv 0) (@pe_int _ _ _ _) set_list) (by rfl) (by rfl) (by rfl))
      (@pss_one _ _ _ (@ps_ret _ _ _ _ (pv 2)))))), ?_⟩
    walk_at "go"
    refine i_ixL (SqL.of hs) (atI_nat (j := 1) rfl) ?_
    walk_at "run"
    have up : ∀ y : Int, Oth s0 H (upd H s0 (.lst [.int y, .int z])) := fun y c o h e => by rw [upd_ne h]; exact e
    have ups : ∀ y : Int, upd H s0 (.lst [.int y, .int z]) s0 = some (.lst [.int y, .int z]) := fun y => upd_same
    refine ite2 (fun hc => ?_) (fun hc => ?_)
    · walk_at "run"
      refine i_ixL (SqL.of hs) (atI_nat (j := 0) rfl) ?_
      walk_at "run"
      refine i_setL hs (j := 0) rfl ?_
      have b1 := Int.emod_nonneg ((x + 1) * 48271) (show (2147483647 : Int) ≠ 0 by decide)
      have b2 := Int.emod_lt_of_pos ((x + 1) * 48271) (show (0 : Int) < 2147483647 by decide)
      rw [show [V.int x, V.int z].set 0 (V.int ((x + 1) * 48271 % 2147483647)) = [V.int ((x + 1) * 48271 % 2147483647), .int z] from rfl]
      generalize (x + 1) * 48271 % 2147483647 = y at b1 b2
      walk_at "run"
      refine i_ixL (SqL.of (ups y)) (atI_nat (j := 0) rfl) ?_
      walk_at "run"
      refine i_ixL (SqL.of (ups y)) (atI_nat (j := 0) rfl) ?_
      walk_at "run"
      refine i_timesI (cb2 (by omega) (by omega)) ?_
      walk_at "run"
      refine i_setL (ups y) (j := 0) rfl ?_
      rw [upd_upd, show [V.int y, V.int z].set 0 (V.int (y * y % 2147483629)) = [V.int (y * y % 2147483629), .int z] from rfl]
      generalize y * y % 2147483629 = y2
      walk_at "run"
      refine i_ixL (SqL.of (ups y2)) (atI_nat (j := 0) rfl) ?_
      walk_at "run"
      obtain ⟨r, hr, e⟩ := mod_nat (y2 * 69621 % 2147483587 / 8) hm
      rw [e]
      exact q r _ hr (up y2) ⟨y2, ups y2⟩
    · walk_at "run"
      refine i_ixL (SqL.of hs) (atI_nat (j := 0) rfl) ?_
      walk_at "run"
      obtain ⟨r, hr, e⟩ := mod_nat x hm
      rw [e]
      refine i_ixL (SqL.of hs) (atI_nat (j := 0) rfl) ?_
      walk_at "run"
      refine i_rI (show CDiv _ _ from ⟨by omega, by omega⟩) ?_
      walk_at "run"
      refine i_setL hs (j := 0) rfl ?_
      walk_at "run"
      exact q r _ hr (up (x / (m : Nat))) ⟨x / (m : Nat), ups _⟩
def sp_cell (K : PySem.W.Frag) : Sp := fun vs H Q _ => ∃ (a : Addr) (ns : List Int) (k : Nat) (m : Int), vs = [.ref a, .int (k : Nat), .int m] ∧ SqL K H a (ns.map V.int) ∧ k ≤ 1000 ∧ 0 ≤ m ∧ m ≤ 1 ∧ ∀ (z : Int) H', Same H H' → Q (.int z) H'
theorem ok_law_cell (T : Txt K mg t) : FnOk P w K mg base CX0 1 t.a__law_cell t.fd__law_cell ["script", "k", "mixed"] (sp_cell K) := by
  refine T.F__law_cell.ok sc_law_cell (fun vs H Q E h => ?_) (fun cdv A outer s H vs Q E hr h => ?_)
  · obtain ⟨a, ns, k, m, rfl, _⟩ := h
    rfl
  · obtain ⟨a, ns, k, m, rfl, hS, hk, hm, hm2, q⟩ := h
    refine ⟨_, (@pss_cons _ _ _ _ _ (@ps_if _ _ _ _ _ _ _ _ (@pt_cmpR _ _ _ _ _ _ _ _ (kop_eqNil K (by exact hr.units)) (pv 0) (@pe_lstN _ _ _ _ (@pa_nil _)) (nomark _)) (@pss_one _ _ _ (@ps_ret _ _ _ _ (@pe_op _ _ _ _ _ _ _ _ op_times (pv 2) (pv 1)))) (@pss_nil _))
      (@pss_one _ _ _ (@ps_ret _ _ _ _ (@pe_op _ _ _ _ _ _ _ _ op_plus (@pe_ix _ _ _ _ _ _ _ (kix_list K) (pv 0) (@pe_op _ _ _ _ _ _ _ _ op_mod (pv 1) (@pe_callB _ _ _ _ _ _ _ _ _ kcall_min2 (by rfl) T.z_min bb_min (@pa_cons _ _ _ _ _ (@pe_int _ _ _ _) (@pa_cons _ _ _ _ _ (@pe_callB _ _ _ _ _ _ _ _ _ (kcl_len K) (by rfl) T.z_len bb_len (@pa_cons _ _ _ _ _ (pv 0) (@pa_nil _) (by rfl)) (by decide) (by decide) (by rfl) (by rfl)) (@pa_nil _) (by rfl)) (by rfl)) (by decide) (by decide) (by rfl) (by rfl))) (fun _ _ => rfl)) (@pe_op _ _ _ _ _ _ _ _ op_times (pv 2) (pv 1)))))), ?_⟩
    walk_at "go"
    intro p1 H1 f1 s1 e1
    refine i_eqNil (s1.seq hS) (SqL.of e1) ?_
    walk_at "run"
    cases ns with
    | nil =>
      refine i_itT ?_
      walk_at "run"
      refine i_timesI (cb (by omega) (by omega)) ?_
      exact q _ H1 s1
    | cons n0 nr =>
      refine i_itF ?_
      walk_at "run"
      refine i_lenL (s1.seq hS) ?_
      walk_at "run"
      have hl : 0 < min 63 (n0 :: nr).length := by simp; omega
      have hlen : (n0 :: nr).length = nr.length + 1 := rfl
      generalize n0 :: nr = ns at hS hl hlen
      rw [List.length_map, show min (63 : Int) (ns.length : Nat) = ((min 63 ns.length : Nat) : Int) by omega]
      obtain ⟨r, hr, e⟩ := mod_nat (k : Int) hl
      walk_at "run"
      rw [e]
      have hrl : r < ns.length := by omega
      refine i_ixL (s1.seq hS) (v := .int ns[r]) (atI_nat (j := r) (by simp [hrl])) ?_
      walk_at "run"
      refine i_timesI (cb (by omega) (by omega)) ?_
      walk_at "run"
      exact q _ H1 s1
inductive Ev where
  | quiet
  | key (k : Nat)
  | word (w : Str)
def Ev.kind : Ev → Str
  | .quiet => "quiet"
  | .key _ => "key"
  | .word _ => "word"
def Ev.tr : Ev → Tr
  | .quiet => .tup [.str "quiet"]
  | .key k => .tup [.str "key", .int (k : Nat)]
  | .word w => .tup [.str "word", .str w]
theorem Ev.tr_inj {a b : Ev} (h : a.tr = b.tr) : a = b := by
  cases a <;> cases b <;> simp [Ev.tr] at h ⊢ <;> first | exact h | omega | (exact h.2) | skip
theorem Ev.tr_h (a : Ev) : a.tr.h ≤ 1 := by cases a <;> simp [Ev.tr, Tr.h, Tr.hs]
theorem ats_get0 {H : Hp} {xs : List Tr} {vs : List V} (h : Tr.Ats H xs vs []) {i : Nat} {v : V} (e : vs[i]? = some v) : ∃ x, xs[i]? = some x ∧ x.At H v [] := by
  obtain ⟨x, f, h1, h2, h3⟩ := h.get i v e
  have : f = [] := List.eq_nil_iff_forall_not_mem.mpr fun a m => by simpa using h3 a m
  subst this
  exact ⟨x, h1, h2⟩
theorem ev_at {H : Hp} {e : Ev} {v : V} (h : e.tr.At H v []) : ∃ a xs, v = .ref a ∧ H a = some (.tup (V.str e.kind :: xs)) := by
  cases e with
  | quiet =>
    obtain ⟨a, vs, rfl, e2, h⟩ := at_tup0.mp h
    obtain ⟨u, w1, rfl, a1, h⟩ := ats_cons0.mp h
    cases at_str0.mp a1
    exact ⟨a, _, rfl, e2⟩
  | key k =>
    obtain ⟨a, vs, rfl, e2, h⟩ := at_tup0.mp h
    obtain ⟨u, w1, rfl, a1, h⟩ := ats_cons0.mp h
    cases at_str0.mp a1
    exact ⟨a, _, rfl, e2⟩
  | word w =>
    obtain ⟨a, vs, rfl, e2, h⟩ := at_tup0.mp h
    obtain ⟨u, w1, rfl, a1, h⟩ := ats_cons0.mp h
    cases at_str0.mp a1
    exact ⟨a, _, rfl, e2⟩
noncomputable def plc : List Ev → Nat → List (Tr × V) → List (Tr × V)
  | [], _, kvs => kvs
  | e :: es, n, kvs => plc es (n + 1) (putK (putK kvs e.tr (.int (n : Nat))) (.str e.kind) (.int (n : Nat)))
theorem plc_snoc : ∀ (es : List Ev) (n : Nat) (kvs : List (Tr × V)) (e : Ev), plc (es ++ [e]) n kvs = putK (putK (plc es n kvs) e.tr (.int ((n + es.length : Nat) : Int))) (.str e.kind) (.int ((n + es.length : Nat) : Int))
  | [], n, kvs, e => rfl
  | x :: xs, n, kvs, e => by
    show plc (xs ++ [e]) (n + 1) _ = _
    rw [plc_snoc xs (n + 1), show n + 1 + xs.length = n + (x :: xs).length by simp; omega]
    rfl
theorem plc_len : ∀ (es : List Ev) (n : Nat) (kvs : List (Tr × V)), (plc es n kvs).length ≤ kvs.length + 2 * es.length
  | [], n, kvs => Nat.le_refl _
  | x :: xs, n, kvs => by
    refine Nat.le_trans (plc_len xs (n + 1) _) ?_
    have h1 := length_putK kvs x.tr (.int (n : Nat))
    have h2 := length_putK (putK kvs x.tr (.int (n : Nat))) (.str x.kind) (.int (n : Nat))
    simp only [List.length_cons]
    omega
def sp_places (K : PySem.W.Frag) (P : Params) : Sp := fun vs H Q _ => ∃ (a : Addr) (us : List V) (es : List Ev), vs = [.ref a] ∧ H a = some (.lst us) ∧ Tr.Ats H (es.map Ev.tr) us [] ∧ es.length ≤ 1000 ∧ ∀ d H', H d = none → Same H H' → DtAt P H' d (plc es 0 []) → Q (.ref d) H'
theorem ok_places_by (T : Txt K mg t) : FnOk P w K mg base CX0 1 t.a_places_by t.fd_places_by ["events"] (sp_places K w.params) := by
  refine T.F_places_by.ok sc_places_by (fun vs H Q E h => ?_) (fun cdv A outer s H vs Q E hr h => ?_)
  · obtain ⟨a, us, es, rfl, _⟩ := h
    rfl
  · obtain ⟨a, us, es, rfl, ha, hu, hl, q⟩ := h
    refine ⟨_, (@pss_cons _ _ _ _ _ (@ps_set _ _ 1 _ _ _ _ sc_places_by.nd rfl (by first | exact Or.inl rfl | exact Or.inr rfl) (pe_tnew w.params) (by rfl) (by first | exact Or.inl rfl | exact Or.inr rfl))
      (@pss_cons _ _ _ _ _ (@ps_for _ _ _ _ _ _ _ _ PassesOwn.never rfl (pi_enum K rfl T.z_enumerate (@pa_cons _ _ _ _ _ (pv 0) (@pa_nil _) (by rfl))) (kpg_tup K (n := 2) rfl (pgs_cons (pg_name (i := 2) sc_places_by.nd rfl (by first | exact Or.inl rfl | exact Or.inr rfl)) (pgs_cons (pg_name (i := 3) sc_places_by.nd rfl (by first | exact Or.inl rfl | exact Or.inr rfl)) (@pgs_nil _)))) (@pss_cons _ _ _ _ _ (ps_tput (P := w.params) rfl (by exact hr.units) (pv 1) (pv 3) (pv 2) rfl)
        (@pss_one _ _ _ (ps_tput (P := w.params) rfl (by exact hr.units) (pv 1) (@pe_ix _ _ _ _ _ _ _ (kix_tup K) (pv 3) (@pe_int _ _ _ _) (fun _ _ => rfl)) (pv 2) rfl))) (by intro _; rfl))
      (@pss_one _ _ _ (@ps_ret _ _ _ _ (pv 1))))), ?_⟩
    have ul : us.length = es.length := by rw [hu.len, List.length_map]
    walk_at "go"
    intro d o1 f1 d1
    have s1 : Same H (upd H d o1) := Same.new f1
    generalize upd H d o1 = H1 at d1 s1
    walk_at "run"
    refine ⟨⟨_, SqL.of (s1 _ _ ha)⟩, for_enum (K := K) (a := a) (xs := us) (fun i σ H' => i ≤ es.length ∧ Same H H' ∧ DtAt w.params H' d (plc (es.take i) 0 []) ∧ ∃ x y, σ = [some (.ref a), some (.ref d), x, y]) ⟨Nat.zero_le _, s1, d1, _, _, rfl⟩ (fun i σ H' _ ⟨_, s', _⟩ => SqL.of (s' _ _ ha)) ?_ ?_⟩
    · rintro i x σ H2 p H3 hi ⟨hil, s2, hd, x0, y0, rfl⟩ s3 e3
      obtain ⟨tx, hx1, hx2⟩ := ats_get0 (hu.same (s2.trans s3)) hi
      rw [List.getElem?_map] at hx1
      obtain ⟨e, he, rfl⟩ := Option.map_eq_some_iff.mp hx1
      obtain ⟨b, xs, rfl, hb⟩ := ev_at hx2
      have hi' : i < es.length := (List.getElem?_eq_some_iff.mp he).1
      have htk : es.take (i + 1) = es.take i ++ [e] := by rw [List.take_add_one, he]; rfl
      have hlt : (es.take i).length = i := by simp; omega
      have hlen := plc_len (es.take i) 0 []
      refine i_asgT (SqT.of e3) rfl ?_
      walk_at "run"
      have hd3 := dt_same hd s3
      have hth := e.tr_h
      refine ⟨d, _, e.tr, rfl, hd3, ⟨hx2, by omega⟩, Nat.lt_of_lt_of_le (show _ < 1000000 by simp only [List.length_nil] at hlen; omega) (le_line (Nat.le_refl _)), fun o2 d2 => ?_⟩
      obtain ⟨φ, hφ⟩ := hd3.ext
      have t2 : Tups H3 (upd H3 d o2) := tups_updE hφ
      have s4 : Same H (upd H3 d o2) := (s2.trans s3).updNew f1
      generalize upd H3 d o2 = H4 at d2 t2 s4
      walk_at "run"
      refine i_ixT (SqT.of (t2 _ _ hb)) (atI_nat (j := 0) rfl) ?_
      have hl2 := length_putK (plc (es.take i) 0 []) e.tr (.int (i : Nat))
      refine ⟨d, _, .str e.kind, rfl, d2, ⟨str_at0, by simp [Tr.h]⟩, Nat.lt_of_lt_of_le (show _ < 1000000 by simp only [List.length_nil] at hlen; omega) (le_line (Nat.le_refl _)), fun o3 d3 => ?_⟩
      refine ⟨hi', s4.updNew f1, ?_, _, _, rfl⟩
      rw [htk, plc_snoc, hlt, Nat.zero_add]
      exact d3
    · rintro σ H2 ⟨_, s2, hd, x0, y0, rfl⟩
      rw [ul, List.take_length] at hd
      walk_at "run"
      exact q d H2 f1 s2 hd
noncomputable def plOf (es : List Ev) (e : Ev) : Option V := (valV (plc es 0 []) e.tr).orElse fun _ => some ((valV (plc es 0 []) (.str e.kind)).getD (.int 0))
def sp_place (K : PySem.W.Frag) (P : Params) : Sp := fun vs H Q _ => ∃ (d : Addr) (v : V) (es : List Ev) (e : Ev), vs = [.ref d, v] ∧ DtAt P H d (plc es 0 []) ∧ e.tr.At H v [] ∧ ∀ y, plOf es e = some y → Q y H
theorem ok_place_of (T : Txt K mg t) : FnOk P w K mg base CX0 1 t.a_place_of t.fd_place_of ["places", "event"] (sp_place K w.params) := by
  refine T.F_place_of.ok sc_place_of (fun vs H Q E h => ?_) (fun cdv A outer s H vs Q E hr h => ?_)
  · obtain ⟨d, v, es, e, rfl, _⟩ := h
    rfl
  · obtain ⟨d, v, es, e, rfl, hd, hv, q⟩ := h
    refine ⟨_, (@pss_cons _ _ _ _ _ (@ps_if _ _ _ _ _ _ _ _ (pt_cmp (pc_tin (P := w.params) rfl (by exact hr.units) (pv 1) (pv 0))) (@pss_one _ _ _ (@ps_ret _ _ _ _ (pe_tget (P := w.params) rfl (by exact hr.units) (pv 0) (pv 1) (fun _ _ => rfl)))) (@pss_nil _))
      (@pss_one _ _ _ (@ps_ret _ _ _ _ (pe_tget2 (P := w.params) rfl (by exact hr.units) (pv 0) (@pe_ix _ _ _ _ _ _ _ (kix_tup K) (pv 1) (@pe_int _ _ _ _) (fun _ _ => rfl)) (@pe_int _ _ _ _) ⟨by rfl, by rfl, by rfl, by rfl⟩)))), ?_⟩
    have hth := e.tr_h
    obtain ⟨b, xs, rfl, hb⟩ := ev_at hv
    walk_at "go"
    refine ⟨d, _, e.tr, rfl, hd, ⟨hv, by omega⟩, ?_⟩
    walk_at "run"
    cases hx : valV (plc es 0 []) e.tr with
    | some y =>
      refine i_itT ?_
      walk_at "run"
      refine ⟨d, _, e.tr, y, rfl, hd, ⟨hv, by omega⟩, hx, q y ?_⟩
      unfold plOf
      rw [hx]
      rfl
    | none =>
      refine i_itF ?_
      walk_at "run"
      refine ⟨d, _, rfl, hd, ?_⟩
      walk_at "run"
      refine i_ixT (SqT.of hb) (atI_nat (j := 0) rfl) ?_
      walk_at "run"
      refine ⟨_, .str e.kind, hd, ⟨str_at0, by simp [Tr.h]⟩, q _ ?_⟩
      unfold plOf
      rw [hx]
      rfl
def strW (s : Str) : Tw := .sc (.str s)
theorem strs_w {H : Hp} : ∀ {ss : List Str} {vs : List V} {fs : List Addr}, Tw.Ats H (ss.map strW) vs fs ↔ vs = strsV ss ∧ fs = []
  | [], vs, fs => by simp [Tw.Ats, strsV]
  | s :: ss, vs, fs => by
    simp only [List.map_cons, Tw.Ats, strW, Tw.At]
    constructor
    · rintro ⟨v, ws, f, g, rfl, rfl, ⟨rfl, _, rfl⟩, h⟩
      obtain ⟨rfl, rfl⟩ := strs_w.mp h
      exact ⟨rfl, rfl⟩
    · rintro ⟨rfl, rfl⟩
      exact ⟨_, _, [], [], rfl, rfl, ⟨rfl, True.intro, rfl⟩, strs_w.mpr ⟨rfl, rfl⟩⟩
def natW (k : Nat) : Tw := .sc (.int (k : Nat))
theorem nats_w {H : Hp} : ∀ {ss : List Nat} {vs : List V} {fs : List Addr}, Tw.Ats H (ss.map natW) vs fs ↔ vs = natsV ss ∧ fs = []
  | [], vs, fs => by simp [Tw.Ats, natsV]
  | s :: ss, vs, fs => by
    simp only [List.map_cons, Tw.Ats, natW, Tw.At]
    constructor
    · rintro ⟨v, ws, f, g, rfl, rfl, ⟨rfl, _, rfl⟩, h⟩
      obtain ⟨rfl, rfl⟩ := nats_w.mp h
      exact ⟨rfl, rfl⟩
    · rintro ⟨rfl, rfl⟩
      exact ⟨_, _, [], [], rfl, rfl, ⟨rfl, True.intro, rfl⟩, nats_w.mpr ⟨rfl, rfl⟩⟩
def lstW (l : List Nat) : Tw := .lst (l.map natW)
theorem lst_w {H : Hp} {l : List Nat} {v : V} {fs : List Addr} : (lstW l).At H v fs ↔ ∃ a, v = .ref a ∧ H a = some (.lst (natsV l)) ∧ fs = [a] := by
  simp only [lstW, Tw.At]
  constructor
  · rintro ⟨a, vs, gs, rfl, e, h, rfl⟩
    obtain ⟨rfl, rfl⟩ := nats_w.mp h
    exact ⟨a, rfl, e, rfl⟩
  · rintro ⟨a, rfl, e, rfl⟩
    exact ⟨a, _, [], rfl, e, nats_w.mpr ⟨rfl, rfl⟩, rfl⟩
mutual
theorem tw_lst {H : Hp} : ∀ {x : Tw} {v : V} {fs : List Addr}, x.At H v fs → ∀ a ∈ fs, ∃ vs, H a = some (.lst vs)
  | .sc _, v, fs, h, a, m => by simp only [Tw.At] at h; rw [h.2.2] at m; cases m
  | .tup xs, v, fs, h, a, m => by
    simp only [Tw.At] at h
    obtain ⟨b, vs, _, _, r⟩ := h
    exact tws_lst r a m
  | .lst xs, v, fs, h, a, m => by
    simp only [Tw.At] at h
    obtain ⟨b, vs, gs, _, g, r, rfl⟩ := h
    rcases List.mem_cons.mp m with rfl | m
    · exact ⟨_, g⟩
    · exact tws_lst r a m
theorem tws_lst {H : Hp} : ∀ {xs : List Tw} {vs : List V} {fs : List Addr}, Tw.Ats H xs vs fs → ∀ a ∈ fs, ∃ vs, H a = some (.lst vs)
  | [], vs, fs, h, a, m => by simp only [Tw.Ats] at h; rw [h.2] at m; cases m
  | x :: xs, vs, fs, h, a, m => by
    simp only [Tw.Ats] at h
    obtain ⟨v, ws, f, g, _, rfl, h1, h2⟩ := h
    rcases List.mem_append.mp m with m | m
    · exact tw_lst h1 a m
    · exact tws_lst h2 a m
end
theorem tws_new {H : Hp} {xs : List Tw} {vs : List V} {fs : List Addr} (h : Tw.Ats H xs vs fs) {p : Addr} (f : H p = none) : p ∉ fs := fun hp => by
  obtain ⟨us, e⟩ := tws_lst h p hp
  rw [f] at e
  cases e
theorem hsW_all {xs : List Tw} {n : Nat} (h : ∀ x ∈ xs, x.h ≤ n) : Tw.hs xs ≤ n := by
  induction xs with
  | nil => simp [Tw.hs]
  | cons x xs ih =>
    simp only [Tw.hs]
    have := h x (by simp)
    have := ih fun y hy => h y (by simp [hy])
    omega
theorem strs_hW (ss : List Str) : Tw.hs (ss.map strW) ≤ 0 := hsW_all fun x hx => by
  obtain ⟨s, _, rfl⟩ := List.mem_map.mp hx
  simp [strW, Tw.h]
theorem natsV_get {ks : List Nat} {j : Nat} {v : V} (h : (natsV ks)[j]? = some v) : ∃ k, ks[j]? = some k ∧ v = .int (k : Nat) := by
  simp only [natsV, List.getElem?_map] at h
  obtain ⟨k, h1, h2⟩ := Option.map_eq_some_iff.mp h
  exact ⟨k, h1, h2.symm⟩
theorem strsV_get {ks : List Str} {j : Nat} {v : V} (h : (strsV ks)[j]? = some v) : ∃ k, ks[j]? = some k ∧ v = .str k := by
  simp only [strsV, List.getElem?_map] at h
  obtain ⟨k, h1, h2⟩ := Option.map_eq_some_iff.mp h
  exact ⟨k, h1, h2.symm⟩
theorem natsV_at {ks : List Nat} {j k : Nat} (h : ks[j]? = some k) : (natsV ks)[j]? = some (.int (k : Nat)) := by
  simp only [natsV, List.getElem?_map, h]
  rfl
theorem strsV_at {ks : List Str} {j : Nat} {k : Str} (h : ks[j]? = some k) : (strsV ks)[j]? = some (.str k) := by
  simp only [strsV, List.getElem?_map, h]
  rfl
noncomputable instance evDec : DecidableEq Ev := fun _ _ => Classical.propDecidable _
theorem ev_str (e : Ev) (k : Str) : ¬ e.tr = Tr.str k := by cases e <;> simp [Ev.tr]
theorem plc_val (es : List Ev) (e : Ev) (t : Tr) : valV (plc (es ++ [e]) 0 []) t = if t = .str e.kind then some (.int (es.length : Nat)) else if t = e.tr then some (.int (es.length : Nat)) else valV (plc es 0 []) t := by
  rw [plc_snoc, valV_put, valV_put, Nat.zero_add]
theorem plc_ev {es : List Ev} (hn : es.Nodup) (e : Ev) : ∀ i, i ≤ es.length → (∃ j : Nat, (es.take i)[j]? = some e ∧ valV (plc (es.take i) 0 []) e.tr = some (.int (j : Nat))) ∨ (e ∉ es.take i ∧ valV (plc (es.take i) 0 []) e.tr = none) := by
  intro i
  induction i with
  | zero => intro _; exact .inr ⟨by simp, rfl⟩
  | succ i ih =>
    intro hi
    have he : es[i]? = some es[i] := List.getElem?_eq_getElem (by omega)
    have htk : es.take (i + 1) = es.take i ++ [es[i]] := by rw [List.take_add_one, he]; rfl
    have hl : (es.take i).length = i := by simp; omega
    rw [htk, plc_val, if_neg (ev_str e _), hl]
    by_cases h : e.tr = es[i].tr
    · have h' := Ev.tr_inj h
      rw [if_pos h]
      refine .inl ⟨i, ?_, rfl⟩
      rw [List.getElem?_append_right (by omega), hl, Nat.sub_self, h']
      rfl
    · rw [if_neg h]
      rcases ih (by omega) with ⟨j, h1, h2⟩ | ⟨h1, h2⟩
      · refine .inl ⟨j, ?_, h2⟩
        rw [List.getElem?_append_left (List.getElem?_eq_some_iff.mp h1).1]
        exact h1
      · refine .inr ⟨fun z => ?_, h2⟩
        rcases List.mem_append.mp z with z | z
        · exact h1 z
        · exact h (by rw [List.mem_singleton.mp z])
theorem plc_kind {es : List Ev} (k : Str) : ∀ i, i ≤ es.length → (∃ (j : Nat) (x : Ev), j < i ∧ es[j]? = some x ∧ x.kind = k ∧ (∀ (m : Nat) (y : Ev), j < m → m < i → es[m]? = some y → y.kind ≠ k) ∧ valV (plc (es.take i) 0 []) (.str k) = some (.int (j : Nat))) ∨ ((∀ (m : Nat) (y : Ev), m < i → es[m]? = some y → y.kind ≠ k) ∧ valV (plc (es.take i) 0 []) (.str k) = none) := by
  intro i
  induction i with
  | zero => intro _; exact .inr ⟨fun m y h => absurd h (Nat.not_lt_zero _), rfl⟩
  | succ i ih =>
    intro hi
    have he : es[i]? = some es[i] := List.getElem?_eq_getElem (by omega)
    have htk : es.take (i + 1) = es.take i ++ [es[i]] := by rw [List.take_add_one, he]; rfl
    have hl : (es.take i).length = i := by simp; omega
    rw [htk, plc_val, hl]
    by_cases h : k = es[i].kind
    · rw [if_pos (by rw [h])]
      exact .inl ⟨i, es[i], by omega, he, h.symm, fun m y h1 h2 => absurd h1 (by omega), rfl⟩
    · rw [if_neg (by simpa using h), if_neg (fun z => ev_str _ _ z.symm)]
      rcases ih (by omega) with ⟨j, x, h0, h1, h2, h3, h4⟩ | ⟨h1, h2⟩
      · refine .inl ⟨j, x, by omega, h1, h2, fun m y a b c => ?_, h4⟩
        by_cases hm : m = i
        · subst hm
          rw [he] at c
          cases c
          exact fun z => h z.symm
        · exact h3 m y a (by omega) c
      · refine .inr ⟨fun m y b c => ?_, h2⟩
        by_cases hm : m = i
        · subst hm
          rw [he] at c
          cases c
          exact fun z => h z.symm
        · exact h1 m y (by omega) c
def LawPl (es : List Ev) (e : Ev) (j : Nat) : Prop := (e ∈ es ∧ es[j]? = some e) ∨ (e ∉ es ∧ ((∃ x, es[j]? = some x ∧ x.kind = e.kind ∧ ∀ (m : Nat) (y : Ev), j < m → es[m]? = some y → y.kind ≠ e.kind) ∨ (j = 0 ∧ ∀ (m : Nat) (y : Ev), es[m]? = some y → y.kind ≠ e.kind)))
theorem nd_at {es : List Ev} (hn : es.Nodup) {i j : Nat} {e : Ev} (h1 : es[i]? = some e) (h2 : es[j]? = some e) : i = j := by
  obtain ⟨l1, e1⟩ := List.getElem?_eq_some_iff.mp h1
  obtain ⟨l2, e2⟩ := List.getElem?_eq_some_iff.mp h2
  have pw := List.pairwise_iff_getElem.mp hn
  rcases Nat.lt_trichotomy i j with h | h | h
  · exact absurd (e1.trans e2.symm) (pw i j l1 l2 h)
  · exact h
  · exact absurd (e2.trans e1.symm) (pw j i l2 l1 h)
theorem pl_same {es : List Ev} (hn : es.Nodup) {e : Ev} {j : Nat} (h : LawPl es e j) : plOf es e = some (.int (j : Nat)) := by
  have a := plc_ev hn e es.length (Nat.le_refl _)
  have b := plc_kind (es := es) e.kind es.length (Nat.le_refl _)
  rw [List.take_length] at a b
  unfold plOf
  rcases h with ⟨h1, h2⟩ | ⟨h1, h2⟩
  · rcases a with ⟨i, a1, a2⟩ | ⟨a1, _⟩
    · rw [a2, nd_at hn h2 a1]
      rfl
    · exact absurd h1 a1
  · rcases a with ⟨i, a1, _⟩ | ⟨_, a2⟩
    · exact absurd (List.mem_of_getElem? a1) h1
    · rw [a2]
      rcases h2 with ⟨x, k1, k2, k3⟩ | ⟨rfl, k3⟩
      · rcases b with ⟨i, y, b0, b1, b2, b3, b4⟩ | ⟨b1, _⟩
        · rw [b4]
          have : i = j := by
            rcases Nat.lt_trichotomy i j with h | h | h
            · exact absurd k2 (b3 j x h (List.getElem?_eq_some_iff.mp k1).1 k1)
            · exact h
            · exact absurd b2 (k3 i y h b1)
          rw [this]
          rfl
        · exact absurd k2 (b1 j x (List.getElem?_eq_some_iff.mp k1).1 k1)
      · rcases b with ⟨i, y, b0, b1, b2, b3, b4⟩ | ⟨_, b4⟩
        · exact absurd b2 (k3 i y b1)
        · rw [b4]
          rfl
theorem es_nd {ks : List Nat} {ws : List Str} (h1 : ks.Nodup) (h2 : ws.Nodup) : ([Ev.quiet] ++ ks.map Ev.key ++ ws.map Ev.word).Nodup := by
  have i1 : (ks.map Ev.key).Nodup := List.Pairwise.map _ (fun a b hab z => hab (by injection z)) h1
  have i2 : (ws.map Ev.word).Nodup := List.Pairwise.map _ (fun a b hab z => hab (by injection z)) h2
  unfold List.Nodup at *
  rw [List.pairwise_append, List.pairwise_append]
  refine ⟨⟨by simp, i1, ?_⟩, i2, ?_⟩
  · intro a ha b hb z
    obtain ⟨k, _, rfl⟩ := List.mem_map.mp hb
    rw [List.mem_singleton.mp ha] at z
    cases z
  · intro a ha b hb z
    obtain ⟨k, _, rfl⟩ := List.mem_map.mp hb
    rcases List.mem_append.mp ha with ha | ha
    · rw [List.mem_singleton.mp ha] at z
      cases z
    · obtain ⟨k', _, rfl⟩ := List.mem_map.mp ha
      cases z
def sp_events (K : PySem.W.Frag) : Sp := fun vs H Q _ => ∃ (s : Addr) (z : Int), vs = [.ref s] ∧ StA H s z ∧ ∀ (es : List Ev) p us H', H p = none → H' p = some (.lst us) → Tr.Ats H' (es.map Ev.tr) us [] → es.Nodup → es.length ≤ 15 → 0 < es.length → Oth s H H' → StA H' s z → Q (.ref p) H'
theorem of4 {H : Hp} {r : Nat} {a b c d : Addr} (h : r < 4) : ∃ x : Addr, atI [V.ref a, .ref b, .ref c, .ref d] (r : Nat) = some (.ref x) ∧ (x = a ∨ x = b ∨ x = c ∨ x = d) := by
  have : r = 0 ∨ r = 1 ∨ r = 2 ∨ r = 3 := by omega
  rcases this with rfl | rfl | rfl | rfl
  · exact ⟨a, atI_nat rfl, by simp⟩
  · exact ⟨b, atI_nat rfl, by simp⟩
  · exact ⟨c, atI_nat rfl, by simp⟩
  · exact ⟨d, atI_nat rfl, by simp⟩
theorem StA.ne {H : Hp} {s : Addr} {z : Int} (k : StA H s z) {p : Addr} (h : H p = none) : p ≠ s := by
  obtain ⟨x, e⟩ := k
  exact (ne_of_none e h).symm
theorem ok_law_events (T : Txt K mg t) : FnOk P w K mg base CX0 2 t.a__law_events t.fd__law_events ["state"] (sp_events K) := by
  have G__law_take := ok_law_take (P := P) (w := w) (base := base) T
  refine T.F__law_events.ok sc_law_events (fun vs H Q E h => ?_) (fun cdv A outer s H vs Q E hr h => ?_)
  · obtain ⟨s, z, rfl, _⟩ := h
    rfl
  · obtain ⟨s0, z, rfl, k, q⟩ := h
    refine ⟨_, (@pss_cons _ _ _ _ _ (@ps_set _ _ 1 _ _ _ _ sc_law_events.nd rfl (by first | exact Or.inl rfl | exact Or.inr rfl) (@pe_ix _ _ _ _ _ _ _ (kix_list K) (@pe_lstN _ _ _ _ (@pa_cons _ _ _ _ _ (@pe_lstN _ _ _ _ (@pa_nil _)) (@pa_cons _ _ _ _ _ (@pe_lstN _ _ _ _ (@pa_cons _ _ _ _ _ (@pe_int _ _ _ _) (@pa_nil _) (by rfl))) (@pa_cons _ _ _ _ _ (@pe_lstN _ _ _ _ (@pa_cons _ _ _ _ _ (@pe_int _ _ _ _) (@pa_cons _ _ _ _ _ (@pe_int _ _ _ _) (@pa_nil _) (by rfl)) (by rfl))) (@pa_cons _ _ _ _ _ (@pe_lstN _ _ _ _ (@pa_cons _ _ _ _ _ (@pe_int _ _ _ _) (@pa_cons _ _ _ _ _ (@pe_int _ _ _ _) (@pa_cons _ _ _ _ _ (@pe_int _ _ _ _) (@pa_nil _) (by rfl)) (by rfl)) (by rfl))) (@pa_nil _) (by rfl)) (by rfl)) (by rfl)) (by rfl))) (@pe_call _ _ _ _ _ _ _ _ _ _ _ _ _ _ _ _ G__law_take (hr.mono (by omega)) rfl T.m__law_take T.F__law_take.kp T.b__law_take .nil pass0 (@pa_cons _ _ _ _ _ (pv 0) (@pa_cons _ _ _ _ _ (@pe_int _ _ _ _) (@pa_nil _) (by rfl)) (by rfl)) (by decide) (by rfl) (by rfl)) (fun _ _ => rfl)) (by rfl) (by first | exact Or.inl rfl | exact Or.inr rfl))
      (@pss_cons _ _ _ _ _ (@ps_set _ _ 2 _ _ _ _ sc_law_events.nd rfl (by first | exact Or.inl rfl | exact Or.inr rfl) (@pe_ix _ _ _ _ _ _ _ (kix_list K) (@pe_lstN _ _ _ _ (@pa_cons _ _ _ _ _ (@pe_lstN _ _ _ _ (@pa_nil _)) (@pa_cons _ _ _ _ _ (@pe_lstN _ _ _ _ (@pa_cons _ _ _ _ _ (@pe_str _ _ _ _) (@pa_nil _) (by rfl))) (@pa_cons _ _ _ _ _ (@pe_lstN _ _ _ _ (@pa_cons _ _ _ _ _ (@pe_str _ _ _ _) (@pa_cons _ _ _ _ _ (@pe_str _ _ _ _) (@pa_nil _) (by rfl)) (by rfl))) (@pa_cons _ _ _ _ _ (@pe_lstN _ _ _ _ (@pa_cons _ _ _ _ _ (@pe_str _ _ _ _) (@pa_cons _ _ _ _ _ (@pe_str _ _ _ _) (@pa_cons _ _ _ _ _ (@pe_str _ _ _ _) (@pa_nil _) (by rfl)) (by rfl)) (by rfl))) (@pa_nil _) (by rfl)) (by rfl)) (by rfl)) (by rfl))) (@pe_call _ _ _ _ _ _ _ _ _ _ _ _ _ _ _ _ G__law_take (hr.mono (by omega)) rfl T.m__law_take T.F__law_take.kp T.b__law_take .nil pass0 (@pa_cons _ _ _ _ _ (pv 0) (@pa_cons _ _ _ _ _ (@pe_int _ _ _ _) (@pa_nil _) (by rfl)) (by rfl)) (by decide) (by rfl) (by rfl)) (fun _ _ => rfl)) (by rfl) (by first | exact Or.inl rfl | exact Or.inr rfl))
      (@pss_one _ _ _ (@ps_ret _ _ _ _ (@pe_op _ _ _ _ _ _ _ _ op_plus (@pe_op _ _ _ _ _ _ _ _ op_plus (@pe_lstN _ _ _ _ (@pa_cons _ _ _ _ _ (@pe_tupN _ _ _ _ _ (@pa_cons _ _ _ _ _ (@pe_str _ _ _ _) (@pa_nil _) (by rfl))) (@pa_nil _) (by rfl))) (pe_lc (Nt := ["key"]) (Nf := []) (caps := []) rfl (comp_ok (sc := defScope s_law_events) rfl rfl (by decide +kernel) (by decide +kernel) (by decide +kernel) rfl (by decide +kernel)) (kpi_list K (pv 1)) (fun _ _ _ _ _ => (pg_name (i := 0) (show (["key"] : List Str).Nodup by decide +kernel) rfl (by first | exact Or.inl rfl | exact Or.inr rfl))) (fun _ _ _ _ _ => (@pts_nil _)) (fun _ _ _ _ _ => (@pe_tupN _ _ _ _ _ (@pa_cons _ _ _ _ _ (@pe_str _ _ _ _) (@pa_cons _ _ _ _ _ (pv 0) (@pa_nil _) (by rfl)) (by rfl)))))) (pe_lc (Nt := ["word"]) (Nf := []) (caps := []) rfl (comp_ok (sc := defScope s_law_events) rfl rfl (by decide +kernel) (by decide +kernel) (by decide +kernel) rfl (by decide +kernel)) (kpi_list K (pv 2)) (fun _ _ _ _ _ => (pg_name (i := 0) (show (["word"] : List Str).Nodup by decide +kernel) rfl (by first | exact Or.inl rfl | exact Or.inr rfl))) (fun _ _ _ _ _ => (@pts_nil _)) (fun _ _ _ _ _ => (@pe_tupN _ _ _ _ _ (@pa_cons _ _ _ _ _ (@pe_str _ _ _ _) (@pa_cons _ _ _ _ _ (pv 0) (@pa_nil _) (by rfl)) (by rfl)))))))))), ?_⟩
    walk_at "go"
    intro pa H1 f1 s1 e1
    walk_at "run"
    intro pb H2 f2 s2 e2
    walk_at "run"
    intro pc H3 f3 s3 e3
    walk_at "run"
    intro pd H4 f4 s4 e4
    walk_at "run"
    intro pe H5 f5 s5 e5
    walk_at "run"
    have s05 := s1.trans (s2.trans (s3.trans (s4.trans s5)))
    have k5 := k.same s05
    refine ⟨s0, z, 4, rfl, k5, by decide, by decide, fun r H6 hr o6 k6 => ?_⟩
    obtain ⟨pk, hpk, hor⟩ := of4 (H := H) (a := pa) (b := pb) (c := pc) (d := pd) hr
    refine i_ixL (SqL.of (o6 _ _ (k.ne ((s1.trans (s2.trans (s3.trans s4))).free f5)) e5)) hpk ?_
    walk_at "run"
    obtain ⟨ks, hk6, hknd, kl, hpks⟩ : ∃ ks : List Nat, H6 pk = some (.lst (natsV ks)) ∧ ks.Nodup ∧ ks.length ≤ 10 ∧ pk ≠ s0 := by
      rcases hor with rfl | rfl | rfl | rfl
      · exact ⟨[], o6 _ _ (k.ne f1) ((s2.trans (s3.trans (s4.trans s5))) _ _ e1), by simp, by simp, k.ne f1⟩
      · exact ⟨[3], o6 _ _ (k.ne (s1.free f2)) ((s3.trans (s4.trans s5)) _ _ e2), by simp, by simp, k.ne (s1.free f2)⟩
      · exact ⟨[0, 9], o6 _ _ (k.ne ((s1.trans s2).free f3)) ((s4.trans s5) _ _ e3), by simp, by simp, k.ne ((s1.trans s2).free f3)⟩
      · exact ⟨[1, 2, 7], o6 _ _ (k.ne ((s1.trans (s2.trans s3)).free f4)) (s5 _ _ e4), by simp, by simp, k.ne ((s1.trans (s2.trans s3)).free f4)⟩
    have oA : Oth s0 H H6 := (oth_same s05).trans o6
    clear hor hpk o6 e1 e2 e3 e4 e5 f1 f2 f3 f4 f5 s1 s2 s3 s4 s5 s05 k5
    intro pa H1 f1 s1 e1
    walk_at "run"
    intro pb H2 f2 s2 e2
    walk_at "run"
    intro pc H3 f3 s3 e3
    walk_at "run"
    intro pd H4 f4 s4 e4
    walk_at "run"
    intro pe H5 f5 s5 e5
    walk_at "run"
    have s05 := s1.trans (s2.trans (s3.trans (s4.trans s5)))
    have k5 := k6.same s05
    refine ⟨s0, z, 4, rfl, k5, by decide, by decide, fun r2 H7 hr2 o7 k7 => ?_⟩
    obtain ⟨pw, hpw, hor⟩ := of4 (H := H) (a := pa) (b := pb) (c := pc) (d := pd) hr2
    refine i_ixL (SqL.of (o7 _ _ (k6.ne ((s1.trans (s2.trans (s3.trans s4))).free f5)) e5)) hpw ?_
    walk_at "run"
    obtain ⟨ws, e4', hwnd, wl⟩ : ∃ ws : List Str, H7 pw = some (.lst (strsV ws)) ∧ ws.Nodup ∧ ws.length ≤ 4 := by
      rcases hor with rfl | rfl | rfl | rfl
      · exact ⟨[], o7 _ _ (k6.ne f1) ((s2.trans (s3.trans (s4.trans s5))) _ _ e1), by simp, by simp⟩
      · exact ⟨["a"], o7 _ _ (k6.ne (s1.free f2)) ((s3.trans (s4.trans s5)) _ _ e2), by simp, by simp⟩
      · exact ⟨["no", "yes"], o7 _ _ (k6.ne ((s1.trans s2).free f3)) ((s4.trans s5) _ _ e3), by decide +kernel, by simp⟩
      · exact ⟨["z", "b", "abcdefgh"], o7 _ _ (k6.ne ((s1.trans (s2.trans s3)).free f4)) (s5 _ _ e4), by decide +kernel, by simp⟩
    have oB : Oth s0 H H7 := oA.trans ((oth_same s05).trans o7)
    have e14 : H7 pk = some (.lst (natsV ks)) := o7 _ _ hpks (s05 _ _ hk6)
    clear hor hpw o7 e1 e2 e3 e4 e5 f1 f2 f3 f4 f5 s1 s2 s3 s4 s5 s05 k5 k6 hk6
    intro p5 H5 f5 s5 e5
    walk_at "run"
    intro p6 H6 f6 s6 e6
    walk_at "run"
    have s46 := s5.trans s6
    refine ⟨⟨_, SqL.of (s46 _ _ e14)⟩, cc_list (xs := natsV ks) (le_line (by rw [natsV_len]; omega)) (fun i acc H' => i ≤ ks.length ∧ acc.length = i ∧ Same H6 H' ∧ Tr.Ats H' (((ks.take i).map Ev.key).map Ev.tr) acc []) ⟨Nat.zero_le _, rfl, Same.refl _, ats_nil0.mpr rfl⟩ (fun i acc H' ⟨_, e, s', _⟩ => ⟨by omega, SqL.of ((s46.trans s') _ _ e14)⟩) ?_ ?_⟩
    · rintro i x acc H' hx ⟨hi, ea, s', hat⟩
      obtain ⟨k0, hk0, rfl⟩ := natsV_get hx
      walk_at "run"
      intro p7 H7 f7 s7 e7
      refine ⟨(List.getElem?_eq_some_iff.mp hk0).1, by simp [ea], s'.trans s7, ?_⟩
      rw [List.take_add_one, hk0, show ks.take i ++ (some k0).toList = ks.take i ++ [k0] from rfl, List.map_append, List.map_append]
      exact ats_app0.mpr ⟨_, _, rfl, hat.same s7, ats_cons0.mpr ⟨_, _, rfl, tup2_at e7 str_at0 int_at, ats_nil0.mpr rfl⟩⟩
    · rintro acc H' ⟨_, ea, s', hat⟩ p8 H8 f8 s8 e8
      rw [natsV_len, List.take_length] at hat
      have al : acc.length ≤ 10 := by rw [ea, natsV_len]; exact kl
      walk_at "run"
      refine i_plusL ((s'.trans s8) _ _ e6) e8 (le_line (by simp; omega)) ?_
      intro p9 H9 f9 s9 e9
      walk_at "run"
      have s49 := s46.trans (s'.trans (s8.trans s9))
      refine ⟨⟨_, SqL.of (s49 _ _ e4')⟩, cc_list (xs := strsV ws) (le_line (by simp [strsV]; omega)) (fun i acc H' => i ≤ ws.length ∧ acc.length = i ∧ Same H9 H' ∧ Tr.Ats H' (((ws.take i).map Ev.word).map Ev.tr) acc []) ⟨Nat.zero_le _, rfl, Same.refl _, ats_nil0.mpr rfl⟩ (fun i acc H' ⟨_, e, s', _⟩ => ⟨by omega, SqL.of ((s49.trans s') _ _ e4')⟩) ?_ ?_⟩
      · rintro i x acc H' hx ⟨hi, ea, s', hat⟩
        obtain ⟨k0, hk0, rfl⟩ := strsV_get hx
        walk_at "run"
        intro p7 H7 f7 s7 e7
        refine ⟨(List.getElem?_eq_some_iff.mp hk0).1, by simp [ea], s'.trans s7, ?_⟩
        rw [List.take_add_one, hk0, show ws.take i ++ (some k0).toList = ws.take i ++ [k0] from rfl, List.map_append, List.map_append]
        exact ats_app0.mpr ⟨_, _, rfl, hat.same s7, ats_cons0.mpr ⟨_, _, rfl, tup2_at e7 str_at0 str_at0, ats_nil0.mpr rfl⟩⟩
      · rintro acc2 H10 ⟨_, ea2, s10, hat2⟩ p11 H11 f11 s11 e11
        rw [show (strsV ws).length = ws.length by simp [strsV], List.take_length] at hat2
        have al2 : acc2.length ≤ 4 := by rw [ea2]; simp [strsV]; omega
        walk_at "run"
        have s911 := s10.trans s11
        refine i_plusL (s911 _ _ e9) e11 (le_line (by simp; omega)) ?_
        intro p12 H12 f12 s12 e12
        have s412 := s49.trans (s911.trans s12)
        refine q ([Ev.quiet] ++ ks.map Ev.key ++ ws.map Ev.word) p12 _ H12 ?_ e12 ?_ (es_nd hknd hwnd) (by simp; omega) (by simp) (oB.trans (oth_same s412)) (k7.same s412)
        · exact oB.free k7 (s49.free (s911.free f12))
        · rw [List.map_append, List.map_append]
          refine ats_app0.mpr ⟨_, _, rfl, ats_app0.mpr ⟨_, _, rfl, ats_cons0.mpr ⟨_, _, rfl, ?_, ats_nil0.mpr rfl⟩, hat.same (s8.trans (s9.trans (s911.trans s12)))⟩, hat2.same (s11.trans s12)⟩
          exact at_tup0.mpr ⟨p5, _, rfl, (s6.trans (s'.trans (s8.trans (s9.trans (s911.trans s12))))) _ _ e5, ats_cons0.mpr ⟨_, _, rfl, str_at0, ats_nil0.mpr rfl⟩⟩
def blocks (ls : List (List Nat)) : List Nat := ls.flatMap fun l => l.length :: l
def offF (b : Nat) (ls : List (List Nat)) (k : Nat) : Nat := b + (blocks (ls.take k)).length
def offsT (b : Nat) (ls : List (List Nat)) (k : Nat) : List Nat := (List.range k).map (offF b ls)
def offs (b : Nat) (ls : List (List Nat)) : List Nat := offsT b ls (ls.length + 1)
theorem offsT_succ (b : Nat) (ls : List (List Nat)) (k : Nat) : offsT b ls (k + 1) = offsT b ls k ++ [offF b ls k] := by
  unfold offsT
  rw [List.range_succ, List.map_append]
  rfl
theorem offs_at {b : Nat} {ls : List (List Nat)} {k : Nat} (h : k ≤ ls.length) : (offs b ls)[k]? = some (offF b ls k) := by
  unfold offs offsT
  rw [List.getElem?_map, List.getElem?_range (by omega)]
  rfl
theorem offF_succ {b : Nat} {ls : List (List Nat)} {k : Nat} {l : List Nat} (h : ls[k]? = some l) : offF b ls (k + 1) = offF b ls k + (1 + l.length) := by
  unfold offF
  rw [List.take_add_one, h]
  simp only [Option.toList_some, blocks, List.flatMap_append, List.length_append, List.flatMap_cons, List.flatMap_nil, List.append_nil, List.length_cons]
  omega
theorem offF_last (b : Nat) (ls : List (List Nat)) : offF b ls ls.length = b + (blocks ls).length := by
  unfold offF
  rw [List.take_length]
theorem cells_at {cells pre post : List Nat} {ls : List (List Nat)} (hc : cells = pre ++ (blocks ls ++ post)) {k : Nat} {l : List Nat} (h : ls[k]? = some l) : cells[offF pre.length ls k]? = some l.length ∧ (cells.drop (offF pre.length ls k + 1)).take l.length = l := by
  have e : blocks ls = blocks (ls.take k) ++ (l.length :: (l ++ blocks (ls.drop (k + 1)))) := by
    conv => lhs; rw [← List.take_append_drop k ls, List.drop_eq_getElem_cons (List.getElem?_eq_some_iff.mp h).1]
    rw [(List.getElem?_eq_some_iff.mp h).2]
    simp [blocks]
  have e2 : cells = (pre ++ blocks (ls.take k)) ++ (l.length :: (l ++ (blocks (ls.drop (k + 1)) ++ post))) := by rw [hc, e]; simp
  have el : offF pre.length ls k = (pre ++ blocks (ls.take k)).length := by simp [offF]
  rw [el, e2]
  constructor
  · rw [List.getElem?_append_right (Nat.le_refl _), Nat.sub_self]
    rfl
  · rw [List.drop_append, List.drop_of_length_le (by omega), Nat.add_sub_cancel_left]
    simp
def sp_blocks (K : PySem.W.Frag) : Sp := fun vs H Q _ => ∃ (c : Addr) (cells pre post : List Nat) (ls : List (List Nat)), vs = [.ref c, .int (pre.length : Nat), .int (ls.length : Nat)] ∧ H c = some (.lst (natsV cells)) ∧ cells = pre ++ (blocks ls ++ post) ∧ ls.length ≤ 1000 ∧ ∀ p H', H p = none → Same H H' → H' p = some (.lst (natsV (offs pre.length ls))) → Q (.ref p) H'
theorem ok_block_places (T : Txt K mg t) : FnOk P w K mg base CX0 1 t.a_block_places t.fd_block_places ["cells", "place", "count"] (sp_blocks K) := by
  refine T.F_block_places.ok sc_block_places (fun vs H Q E h => ?_) (fun cdv A outer s H vs Q E hr h => ?_)
  · obtain ⟨c, cells, pre, post, ls, rfl, _⟩ := h
    rfl
  · obtain ⟨c, cells, pre, post, ls, rfl, hc, hcl, hll, q⟩ := h
    refine ⟨_, (@pss_cons _ _ _ _ _ (@ps_set _ _ 3 _ _ _ _ sc_block_places.nd rfl (by first | exact Or.inl rfl | exact Or.inr rfl) (@pe_lstN _ _ _ _ (@pa_cons _ _ _ _ _ (pv 1) (@pa_nil _) (by rfl))) (by rfl) (by first | exact Or.inl rfl | exact Or.inr rfl))
      (@pss_cons _ _ _ _ _ (@ps_while _ _ _ _ _ _ PassesOwn.never (@pt_cmpR _ _ _ _ _ _ _ _ op_le (@pe_callB _ _ _ _ _ _ _ _ _ (kcl_len K) (by rfl) T.z_len bb_len (@pa_cons _ _ _ _ _ (pv 3) (@pa_nil _) (by rfl)) (by decide) (by decide) (by rfl) (by rfl)) (pv 2) (nomark _)) (@pss_cons _ _ _ _ _ (@ps_if _ _ _ _ _ _ _ _ (@PW.pt _ _ _ (@pw_or _ _ _ _ _ _ _ (@pt_cmpR _ _ _ _ _ _ _ _ op_ge (pv 1) (@pe_callB _ _ _ _ _ _ _ _ _ (kcl_len K) (by rfl) T.z_len bb_len (@pa_cons _ _ _ _ _ (pv 0) (@pa_nil _) (by rfl)) (by decide) (by decide) (by rfl) (by rfl)) (nomark _)) (@pw_or1 _ _ _ _ (@pt_cmpR _ _ _ _ _ _ _ _ op_lt (@pe_ix _ _ _ _ _ _ _ (kix_list K) (pv 0) (pv 1) (fun _ _ => rfl)) (@pe_int _ _ _ _) (nomark _))))) (@pss_one _ _ _ (@ps_ret _ _ _ _ (@pe_non _ _ _))) (@pss_nil _))
        (@pss_cons _ _ _ _ _ (@ps_aug _ _ 1 _ _ _ _ _ _ sc_block_places.nd rfl (by first | exact Or.inl rfl | exact Or.inr rfl) (@pe_op _ _ _ _ _ _ _ _ op_plus (@pe_int _ _ _ _) (@pe_ix _ _ _ _ _ _ _ (kix_list K) (pv 0) (pv 1) (fun _ _ => rfl))) ip_add (by first | exact Or.inl rfl | exact Or.inr rfl))
        (@pss_one _ _ _ (@ps_expr _ _ _ _ (@kpe_bm _ K _ _ _ _ _ _ _ _ _ _ _ PySem.F.plainAttrs_list PySem.F.slot_list_append PySem.F.type_list_append mt_append (pv 3) (@pa_cons _ _ _ _ _ (pv 1) (@pa_nil _) (by rfl)) (by rfl) (by rfl) (by rfl) (by rfl) (by rfl) (by rfl)) (by rfl))))))
      (@pss_one _ _ _ (@ps_ret _ _ _ _ (@pe_ifExp _ _ _ _ _ _ _ _ (@pt_cmpR _ _ _ _ _ _ _ _ op_le (pv 1) (@pe_callB _ _ _ _ _ _ _ _ _ (kcl_len K) (by rfl) T.z_len bb_len (@pa_cons _ _ _ _ _ (pv 0) (@pa_nil _) (by rfl)) (by decide) (by decide) (by rfl) (by rfl)) (nomark _)) (pv 3) (@pe_non _ _ _)))))), ?_⟩
    have sl : (1000000 : Nat) ≤ sizeLine := le_line (Nat.le_refl _)
    walk_at "go"
    intro pf H1 f1 s1 e1
    walk_at "run"
    refine i_while (fun m σ H' => Same H H' ∧ ∃ k : Nat, k ≤ ls.length ∧ σ = [some (.ref c), some (.int (offF pre.length ls k : Nat)), some (.int (ls.length : Nat)), some (.ref pf)] ∧ m = ls.length - k ∧ H' pf = some (.lst (natsV (offsT pre.length ls (k + 1))))) ls.length ⟨s1, 0, Nat.zero_le _, by simp [offF, blocks], rfl, by rw [e1]; simp [offsT, offF, blocks, natsV]⟩ ?_
    rintro m σ H2 ⟨s2, k, hk, rfl, rfl, hpf⟩
    walk_at "run"
    refine i_lenL (SqL.of hpf) ?_
    walk_at "run"
    have ol : (natsV (offsT pre.length ls (k + 1))).length = k + 1 := by simp [natsV, offsT]
    rw [ol]
    have hc2 := s2 _ _ hc
    refine ite2 (fun hd => ?_) (fun hd => ?_)
    · have hkl : k < ls.length := by have := of_decide_eq_true hd; omega
      have el : ls[k]? = some ls[k] := List.getElem?_eq_getElem hkl
      obtain ⟨h1, h2⟩ := cells_at hcl el
      have hlt : offF pre.length ls k < cells.length := (List.getElem?_eq_some_iff.mp h1).1
      refine ⟨fun σ' H' => Same H H' ∧ σ' = [some (.ref c), some (.int (offF pre.length ls (k + 1) : Nat)), some (.int (ls.length : Nat)), some (.ref pf)] ∧ H' pf = some (.lst (natsV (offsT pre.length ls (k + 1 + 1)))), fun σ' H' ⟨s', e, h⟩ => ⟨ls.length - (k + 1), by omega, s', k + 1, hkl, e, rfl, h⟩, ?_⟩
      walk_at "run"
      refine i_lenL (SqL.of hc2) ?_
      walk_at "run"
      rw [natsV_len]
      refine ite2 (fun hx => ?_) (fun hx => ?_)
      · exfalso
        have := of_decide_eq_true hx
        omega
      walk_at "run"
      refine i_ixL (SqL.of hc2) (atI_nat (natsV_at h1)) ?_
      walk_at "run"
      refine ite2 (fun hx => ?_) (fun hx => ?_)
      · exfalso
        have := of_decide_eq_true hx
        omega
      walk_at "run"
      refine i_augE rfl ?_
      walk_at "run"
      refine i_ixL (SqL.of hc2) (atI_nat (natsV_at h1)) ?_
      walk_at "run"
      dsimp only [List.set_cons_zero, List.set_cons_succ]
      refine i_tyL (SqL.of hpf) ?_
      walk_at "run"
      refine i_append hpf (by rw [ol]; omega) ?_
      have eo : ((offF pre.length ls k : Nat) : Int) + (1 + (ls[k].length : Nat)) = ((offF pre.length ls (k + 1) : Nat) : Int) := by rw [offF_succ el]; omega
      rw [eo]
      refine ⟨s2.updNew f1, rfl, ?_⟩
      rw [upd_same, natsV_snoc, ← offsT_succ]
    · have hkl : k = ls.length := by
        have : ¬ (k + 1 : Int) ≤ ls.length := fun z => hd (decide_eq_true (by omega))
        omega
      subst hkl
      walk_at "run"
      refine i_lenL (SqL.of hc2) ?_
      walk_at "run"
      rw [natsV_len]
      have hle : offF pre.length ls ls.length ≤ cells.length := by rw [offF_last, hcl]; simp
      refine ite2 (fun hx => ?_) (fun hx => ?_)
      · walk_at "run"
        exact q pf H2 f1 s2 hpf
      · exfalso
        exact hx (decide_eq_true (by omega))
def sp_cellsin (K : PySem.W.Frag) : Sp := fun vs H Q _ => ∃ (c : Addr) (cells l : List Nat) (pl : Nat), vs = [.ref c, .int (pl : Nat)] ∧ H c = some (.lst (natsV cells)) ∧ cells[pl]? = some l.length ∧ (cells.drop (pl + 1)).take l.length = l ∧ ∀ p H', H p = none → Same H H' → H' p = some (.lst (natsV l)) → Q (.ref p) H'
theorem cut_nats {ns : List Nat} {j k : Nat} : cutV (natsV ns) (some (j : Int)) (some (k : Int)) = natsV ((ns.drop j).take (k - j)) := by
  rw [natsV_int, cut_from, ← List.map_drop, ← List.map_take, ← natsV_int]
theorem ok_cells_in (T : Txt K mg t) : FnOk P w K mg base CX0 1 t.a_cells_in t.fd_cells_in ["cells", "place"] (sp_cellsin K) := by
  refine T.F_cells_in.ok sc_cells_in (fun vs H Q E h => ?_) (fun cdv A outer s H vs Q E hr h => ?_)
  · obtain ⟨c, cells, l, pl, rfl, _⟩ := h
    rfl
  · obtain ⟨c, cells, l, pl, rfl, hc, h1, h2, q⟩ := h
    refine ⟨_, (@pss_one _ _ _ (@ps_ret _ _ _ _ (@pe_slice _ _ _ _ _ _ _ _ _ _ (ksl_list K) (pv 0) (@po_some _ _ _ (@pe_op _ _ _ _ _ _ _ _ op_plus (pv 1) (@pe_int _ _ _ _))) (@po_some _ _ _ (@pe_op _ _ _ _ _ _ _ _ op_plus (@pe_op _ _ _ _ _ _ _ _ op_plus (pv 1) (@pe_int _ _ _ _)) (@pe_ix _ _ _ _ _ _ _ (kix_list K) (pv 0) (pv 1) (fun _ _ => rfl))))))), ?_⟩
    walk_at "go"
    refine i_ixL (SqL.of hc) (atI_nat (natsV_at h1)) ?_
    walk_at "run"
    refine i_slL (SqL.of hc) ?_
    rw [show ((pl : Nat) : Int) + 1 = ((pl + 1 : Nat) : Int) by omega, show ((pl + 1 : Nat) : Int) + (l.length : Nat) = ((pl + 1 + l.length : Nat) : Int) by omega, cut_nats, Nat.add_sub_cancel_left, h2]
    intro p H1 f1 s1 e1
    exact q p H1 f1 s1 e1
def txOf (txs : List Str) (l : List Nat) : List Str := l.map fun n => txs.getD n (Str.ofString "")
def sp_textsat (K : PySem.W.Frag) : Sp := fun vs H Q _ => ∃ (t c : Addr) (txs : List Str) (cells l : List Nat) (pl : Nat), vs = [.ref t, .ref c, .int (pl : Nat)] ∧ H t = some (.lst (strsV txs)) ∧ H c = some (.lst (natsV cells)) ∧ cells[pl]? = some l.length ∧ (cells.drop (pl + 1)).take l.length = l ∧ (∀ n ∈ l, n < txs.length) ∧ l.length ≤ 1000 ∧ ∀ p H', H p = none → Same H H' → H' p = some (.lst (strsV (txOf txs l))) → Q (.ref p) H'
theorem txs_at {txs : List Str} {n : Nat} (h : n < txs.length) : (strsV txs)[n]? = some (.str (txs.getD n (Str.ofString ""))) := by
  refine strsV_at ?_
  rw [List.getD_eq_getElem?_getD, List.getElem?_eq_getElem h]
  rfl
theorem txOf_snoc {txs : List Str} {l : List Nat} {i n : Nat} (e : l[i]? = some n) : strsV (txOf txs (l.take i)) ++ [V.str (txs.getD n (Str.ofString ""))] = strsV (txOf txs (l.take (i + 1))) := by
  rw [List.take_add_one, e]
  simp [txOf, strsV]
theorem ok_texts_at (T : Txt K mg t) : FnOk P w K mg base CX0 2 t.a_texts_at t.fd_texts_at ["texts", "cells", "place"] (sp_textsat K) := by
  have G_cells_in := ok_cells_in (P := P) (w := w) (base := base) T
  refine T.F_texts_at.ok sc_texts_at (fun vs H Q E h => ?_) (fun cdv A outer s H vs Q E hr h => ?_)
  · obtain ⟨t, c, txs, cells, l, pl, rfl, _⟩ := h
    rfl
  · obtain ⟨tx, c, txs, cells, l, pl, rfl, ht, hc, h1, h2, hlt, hll, q⟩ := h
    refine ⟨_, (@pss_one _ _ _ (@ps_ret _ _ _ _ (pe_lc (Nt := ["number"]) (Nf := ["texts"]) (caps := [0]) rfl (comp_ok (sc := defScope s_texts_at) rfl rfl (by decide +kernel) (by decide +kernel) (by decide +kernel) rfl (by decide +kernel)) (kpi_list K (@pe_call _ _ _ _ _ _ _ _ _ _ _ _ _ _ _ _ G_cells_in (hr.mono (by omega)) rfl T.m_cells_in T.F_cells_in.kp T.b_cells_in .nil pass0 (@pa_cons _ _ _ _ _ (pv 1) (@pa_cons _ _ _ _ _ (pv 2) (@pa_nil _) (by rfl)) (by rfl)) (by decide) (by rfl) (by rfl))) (fun _ _ _ _ _ => (pg_name (i := 0) (show (["number", "texts"] : List Str).Nodup by decide +kernel) rfl (by first | exact Or.inl rfl | exact Or.inr rfl))) (fun _ _ _ _ _ => (@pts_nil _)) (fun _ _ _ _ _ => (@pe_ix _ _ _ _ _ _ _ (kix_list K) (pv 1) (pv 0) (fun _ _ => rfl)))))), ?_⟩
    walk_at "go"
    refine ⟨c, cells, l, pl, rfl, hc, h1, h2, fun p1 H1 f1 s1 e1 => ?_⟩
    refine ⟨p1, rfl, ⟨_, SqL.of e1⟩, cc_list (xs := natsV l) (le_line (by rw [natsV_len]; omega)) (fun i acc H' => H' = H1 ∧ i ≤ l.length ∧ acc = strsV (txOf txs (l.take i))) ⟨rfl, Nat.zero_le _, rfl⟩ (fun i acc H' ⟨e, hi, ea⟩ => ⟨by rw [ea]; simp [strsV, txOf]; omega, e ▸ SqL.of e1⟩) ?_ ?_⟩
    · rintro i x acc H' hx ⟨rfl, hi, rfl⟩
      obtain ⟨n, hn, rfl⟩ := natsV_get hx
      walk_at "run"
      refine i_ixL (SqL.of (s1 _ _ ht)) (atI_nat (txs_at (hlt n (List.mem_of_getElem? hn)))) ?_
      exact ⟨rfl, (List.getElem?_eq_some_iff.mp hn).1, txOf_snoc hn⟩
    · rintro acc H' ⟨rfl, _, rfl⟩ p2 H2 f2 s2 e2
      rw [natsV_len, List.take_length] at e2
      exact q p2 H2 (s1.free f2) (s1.trans s2) e2
abbrev Tri := Nat × Nat × Nat
abbrev Sh := (Nat × Nat) × List Tri
def flat3 (ts : List Tri) : List Nat := ts.flatMap fun t => [t.1, t.2.1, t.2.2]
def shL (h : Sh) : List Nat := h.1.1 :: h.1.2 :: flat3 h.2
theorem flat3_len : ∀ ts : List Tri, (flat3 ts).length = ts.length * 3
  | [] => rfl
  | t :: ts => by
    have := flat3_len ts
    simp only [flat3, List.flatMap_cons, List.length_append, List.length_cons, List.length_nil] at this ⊢
    omega
theorem flat3_at : ∀ {ts : List Tri} {i : Nat} {t : Tri}, ts[i]? = some t → ((flat3 ts).drop (i * 3)).take 3 = [t.1, t.2.1, t.2.2] ∧ (flat3 ts)[i * 3]? = some t.1 ∧ (flat3 ts)[i * 3 + 1]? = some t.2.1 ∧ (flat3 ts)[i * 3 + 2]? = some t.2.2
  | [], i, t, h => by simp at h
  | x :: ts, 0, t, h => by
    obtain rfl : x = t := by simpa using h
    refine ⟨?_, ?_, ?_, ?_⟩ <;> simp [flat3]
  | x :: ts, i + 1, t, h => by
    obtain ⟨h1, h2, h3, h4⟩ := flat3_at (ts := ts) (i := i) (t := t) (by simpa using h)
    have e : flat3 (x :: ts) = [x.1, x.2.1, x.2.2] ++ flat3 ts := rfl
    rw [e, show (i + 1) * 3 = i * 3 + 3 by omega]
    refine ⟨?_, ?_, ?_, ?_⟩
    · simpa using h1
    · simpa using h2
    · rw [show i * 3 + 3 + 1 = i * 3 + 1 + 3 by omega]; simpa using h3
    · rw [show i * 3 + 3 + 2 = i * 3 + 2 + 3 by omega]; simpa using h4
theorem shL_at {h : Sh} {i : Nat} {t : Tri} (e : h.2[i]? = some t) : ((shL h).drop (2 + i * 3)).take 3 = [t.1, t.2.1, t.2.2] ∧ (shL h)[2 + i * 3]? = some t.1 ∧ (shL h)[2 + i * 3 + 1]? = some t.2.1 ∧ (shL h)[2 + i * 3 + 2]? = some t.2.2 := by
  obtain ⟨h1, h2, h3, h4⟩ := flat3_at e
  unfold shL
  rw [show 2 + i * 3 = i * 3 + 1 + 1 by omega, show i * 3 + 1 + 1 + 1 = i * 3 + 1 + 1 + 1 from rfl]
  refine ⟨?_, ?_, ?_, ?_⟩
  · simpa using h1
  · simpa using h2
  · rw [show i * 3 + 1 + 1 + 1 = (i * 3 + 1) + 1 + 1 by omega]; simpa using h3
  · rw [show i * 3 + 1 + 1 + 2 = (i * 3 + 2) + 1 + 1 by omega]; simpa using h4
def tripW (t : Tri) : Tw := .tup [natW t.1, natW t.2.1, natW t.2.2]
theorem trip_w {H : Hp} {t : Tri} {v : V} {fs : List Addr} : (tripW t).At H v fs ↔ ∃ k, v = .ref k ∧ H k = some (.tup [.int (t.1 : Nat), .int (t.2.1 : Nat), .int (t.2.2 : Nat)]) ∧ fs = [] := by
  simp only [tripW, natW, Tw.At, Tw.Ats]
  constructor
  · rintro ⟨a, vs, rfl, e, v, ws, f, g, rfl, rfl, ⟨rfl, _, rfl⟩, v', ws', f', g', rfl, rfl, ⟨rfl, _, rfl⟩, v2, ws2, f2, g2, rfl, rfl, ⟨rfl, _, rfl⟩, rfl, rfl⟩
    exact ⟨a, rfl, e, rfl⟩
  · rintro ⟨k, rfl, e, rfl⟩
    exact ⟨k, _, rfl, e, _, _, [], [], rfl, rfl, ⟨rfl, True.intro, rfl⟩, _, _, [], [], rfl, rfl, ⟨rfl, True.intro, rfl⟩, _, _, [], [], rfl, rfl, ⟨rfl, True.intro, rfl⟩, rfl, rfl⟩
def sp_others (K : PySem.W.Frag) : Sp := fun vs H Q _ => ∃ (s : Addr) (h : Sh), vs = [.ref s] ∧ H s = some (.lst (natsV (shL h))) ∧ h.2.length ≤ 1000 ∧ ∀ p acc H', H p = none → Same H H' → H' p = some (.lst acc) → Tw.Ats H' (h.2.map tripW) acc [] → Q (.ref p) H'
theorem many3_sh (n : Nat) : many3 2 ((n * 3 + 2 : Nat) : Int) = n := by
  unfold many3
  omega
theorem ok_others_in (T : Txt K mg t) : FnOk P w K mg base CX0 1 t.a_others_in t.fd_others_in ["shape"] (sp_others K) := by
  refine T.F_others_in.ok sc_others_in (fun vs H Q E h => ?_) (fun cdv A outer s H vs Q E hr h => ?_)
  · obtain ⟨s, h, rfl, _⟩ := h
    rfl
  · obtain ⟨s0, sh, rfl, hs, hl, q⟩ := h
    refine ⟨_, (@pss_one _ _ _ (@ps_ret _ _ _ _ (pe_lc (Nt := ["place"]) (Nf := ["shape"]) (caps := [0]) rfl (comp_ok (sc := defScope s_others_in) rfl rfl (by decide +kernel) (by decide +kernel) (by decide +kernel) rfl (by decide +kernel)) (pi_range3 rfl T.z_range (@pa_cons _ _ _ _ _ (@pe_int _ _ _ _) (@pa_cons _ _ _ _ _ (@pe_callB _ _ _ _ _ _ _ _ _ (kcl_len K) (by rfl) T.z_len bb_len (@pa_cons _ _ _ _ _ (pv 0) (@pa_nil _) (by rfl)) (by decide) (by decide) (by rfl) (by rfl)) (@pa_cons _ _ _ _ _ (@pe_int _ _ _ _) (@pa_nil _) (by rfl)) (by rfl)) (by rfl))) (fun _ _ _ _ _ => (pg_name (i := 0) (show (["place", "shape"] : List Str).Nodup by decide +kernel) rfl (by first | exact Or.inl rfl | exact Or.inr rfl))) (fun _ _ _ _ _ => (@pts_nil _)) (fun _ _ _ _ _ => (@pe_callTy _ _ _ _ _ _ _ _ _ (kcl_tuple K) (by rfl) T.z_tuple bb_tuple (@pa_cons _ _ _ _ _ (@pe_slice _ _ _ _ _ _ _ _ _ _ (ksl_list K) (pv 1) (@po_some _ _ _ (pv 0)) (@po_some _ _ _ (@pe_op _ _ _ _ _ _ _ _ op_plus (pv 0) (@pe_int _ _ _ _)))) (@pa_nil _) (by rfl)) (by decide) (by decide) (by rfl) (by rfl)))))), ?_⟩
    walk_at "go"
    refine i_lenL (SqL.of hs) ?_
    walk_at "run"
    have hle : (natsV (shL sh)).length = sh.2.length * 3 + 2 := by rw [natsV_len]; simp [shL, flat3_len]
    rw [hle]
    refine ⟨2, _, rfl, ⟨by omega, by omega, by omega, by omega⟩, ?_⟩
    rw [many3_sh]
    refine cc_range3 (n := sh.2.length) (le_line (by omega)) (fun i acc H' => i ≤ sh.2.length ∧ acc.length = i ∧ Same H H' ∧ Tw.Ats H' ((sh.2.take i).map tripW) acc []) ⟨Nat.zero_le _, rfl, Same.refl _, by simp [Tw.Ats]⟩ (fun i acc H' ⟨_, e, _⟩ => by omega) ?_ ?_
    · rintro i acc H1 hi ⟨hil, ea, s1, hat⟩
      have et : sh.2[i]? = some sh.2[i] := List.getElem?_eq_getElem hi
      obtain ⟨x1, _⟩ := shL_at et
      walk_at "run"
      refine i_slL (SqL.of (s1 _ _ hs)) ?_
      rw [show (2 : Int) + (i : Nat) * 3 = ((2 + i * 3 : Nat) : Int) by omega, show ((2 + i * 3 : Nat) : Int) + 3 = ((2 + i * 3 + 3 : Nat) : Int) by omega, cut_nats, Nat.add_sub_cancel_left, x1]
      intro p2 H2 f2 s2 e2
      walk_at "run"
      refine i_tupleL (SqL.of e2) ?_
      intro p3 H3 f3 s3 e3
      refine ⟨hi, by simp [ea], s1.trans (s2.trans s3), ?_⟩
      rw [List.take_add_one, et, List.map_append]
      exact Tw.Ats.snoc (gs := []) (hat.same (s2.trans s3)) (trip_w.mpr ⟨p3, rfl, e3, rfl⟩)
    · rintro acc H1 ⟨_, ea, s1, hat⟩ p2 H2 f2 s2 e2
      rw [List.take_length] at hat
      exact q p2 acc H2 (s1.free f2) (s1.trans s2) e2 (hat.same s2)
structure Pk where
  told : List Nat
  shs : List Sh
  sys : List (List Nat)
  say : Nat
def Pk.cells (k : Pk) : List Nat := k.told.length :: k.sys.length :: k.shs.length :: k.say :: (k.told ++ (blocks (k.shs.map shL) ++ blocks k.sys))
def Pk.pre1 (k : Pk) : List Nat := k.told.length :: k.sys.length :: k.shs.length :: k.say :: k.told
def Pk.pre2 (k : Pk) : List Nat := k.pre1 ++ blocks (k.shs.map shL)
theorem Pk.c1 (k : Pk) : k.cells = k.pre1 ++ (blocks (k.shs.map shL) ++ blocks k.sys) := by simp [Pk.cells, Pk.pre1]
theorem Pk.c2 (k : Pk) : k.cells = k.pre2 ++ (blocks k.sys ++ []) := by simp [Pk.cells, Pk.pre2, Pk.pre1]
theorem Pk.l1 (k : Pk) : k.pre1.length = 4 + k.told.length := by simp [Pk.pre1]; omega
theorem Pk.l2 (k : Pk) : k.pre2.length = offF k.pre1.length (k.shs.map shL) (k.shs.map shL).length := by rw [offF_last]; simp [Pk.pre2]
theorem Pk.at4 (k : Pk) {i t : Nat} (h : k.told[i]? = some t) : k.cells[4 + i]? = some t := by
  unfold Pk.cells
  rw [show 4 + i = i + 1 + 1 + 1 + 1 by omega]
  simp only [List.getElem?_cons_succ]
  rw [List.getElem?_append_left (List.getElem?_eq_some_iff.mp h).1, h]
structure PkOk (k : Pk) (T : Nat) : Prop where
  nt : k.told.length ≤ 100
  n0 : 0 < k.told.length
  nsh : k.shs.length ≤ 100
  nsy : k.sys.length ≤ 100
  told : ∀ t ∈ k.told, t / 2 < k.shs.length
  sh : ∀ h ∈ k.shs, h.1.1 < k.sys.length ∧ h.1.2 < k.told.length ∧ (∀ t ∈ h.2, t.2.1 < k.sys.length ∧ t.2.2 < k.told.length) ∧ (h.2.map (·.1)).Nodup ∧ h.2.length ≤ 100
  sy : ∀ l ∈ k.sys, l.length ≤ 100 ∧ ∀ n ∈ l, n < T
  say : k.say < k.sys.length
def pm (d tx c sh sy : Addr) : List (Str × V) := putF "sayings" (.ref sy) (putF "shapes" (.ref sh) (putF "cells" (.ref c) (putF "texts" (.ref tx) (putF "places" (.ref d) []))))
theorem pm_places (d tx c sh sy : Addr) : (pm d tx c sh sy).lookup ("places" : Str) = some (.ref d) := by
  unfold pm
  rw [lookup_putF, if_neg (by decide +kernel), lookup_putF, if_neg (by decide +kernel), lookup_putF, if_neg (by decide +kernel), lookup_putF, if_neg (by decide +kernel), lookup_putF, if_pos rfl]
theorem pm_texts (d tx c sh sy : Addr) : (pm d tx c sh sy).lookup ("texts" : Str) = some (.ref tx) := by
  unfold pm
  rw [lookup_putF, if_neg (by decide +kernel), lookup_putF, if_neg (by decide +kernel), lookup_putF, if_neg (by decide +kernel), lookup_putF, if_pos rfl]
theorem pm_cells (d tx c sh sy : Addr) : (pm d tx c sh sy).lookup ("cells" : Str) = some (.ref c) := by
  unfold pm
  rw [lookup_putF, if_neg (by decide +kernel), lookup_putF, if_neg (by decide +kernel), lookup_putF, if_pos rfl]
theorem pm_shapes (d tx c sh sy : Addr) : (pm d tx c sh sy).lookup ("shapes" : Str) = some (.ref sh) := by
  unfold pm
  rw [lookup_putF, if_neg (by decide +kernel), lookup_putF, if_pos rfl]
theorem pm_sayings (d tx c sh sy : Addr) : (pm d tx c sh sy).lookup ("sayings" : Str) = some (.ref sy) := by
  unfold pm
  rw [lookup_putF, if_pos rfl]
theorem pm_no (d tx c sh sy : Addr) {m : Str} (h1 : ¬ m = "sayings") (h2 : ¬ m = "shapes") (h3 : ¬ m = "cells") (h4 : ¬ m = "texts") (h5 : ¬ m = "places") : (pm d tx c sh sy).lookup m = none := by
  unfold pm
  rw [lookup_putF, if_neg h1, lookup_putF, if_neg h2, lookup_putF, if_neg h3, lookup_putF, if_neg h4, lookup_putF, if_neg h5]
  all_goals rfl
structure PAt (P : Params) (C : Addr) (H : Hp) (p d tx c sh sy : Addr) (es : List Ev) (txs : List Str) (k : Pk) : Prop where
  ex : ∃ dx, H p = some (.ins C dx (pm d tx c sh sy)) ∧ DtAt P H d (plc es 0 []) ∧ H tx = some (.lst (strsV txs)) ∧ H c = some (.lst (natsV k.cells)) ∧ H sh = some (.lst (natsV (offs k.pre1.length (k.shs.map shL)))) ∧ H sy = some (.lst (natsV (offs k.pre2.length k.sys)))
theorem PAt.same {P : Params} {C p d tx c sh sy : Addr} {H H' : Hp} {es : List Ev} {txs : List Str} {k : Pk} (m : PAt P C H p d tx c sh sy es txs k) (s : Same H H') : PAt P C H' p d tx c sh sy es txs k := by
  obtain ⟨dx, h1, h2, h3, h4, h5, h6⟩ := m.ex
  exact ⟨dx, s _ _ h1, dt_same h2 s, s _ _ h3, s _ _ h4, s _ _ h5, s _ _ h6⟩
def sp_init (K : PySem.W.Frag) (P : Params) (C : Addr) : Sp := fun vs H Q _ => ∃ (p dx tt a b c : Addr) (us : List V) (es : List Ev) (txs : List Str) (k : Pk), vs = [.ref p, .ref tt] ∧ H p = some (.ins C dx []) ∧ H tt = some (.tup [.ref a, .ref b, .ref c]) ∧ H a = some (.lst us) ∧ Tr.Ats H (es.map Ev.tr) us [] ∧ es.length ≤ 100 ∧ H b = some (.lst (strsV txs)) ∧ H c = some (.lst (natsV k.cells)) ∧ PkOk k txs.length ∧
  ∀ d tx c' sh sy H', PAt P C H' p d tx c' sh sy es txs k → (∀ x ∈ [d, tx, c', sh, sy], H x = none) → (∀ x o, H x = some o → x ≠ p → H' x = some o) → Q .non H'
theorem ok_PackMachine___init__ (T : Txt K mg t) : FnOk P w K mg base CX0 2 t.a_PackMachine___init__ t.fd_PackMachine___init__ ["self", "pack"] (sp_init K w.params t.c_PackMachine) := by
  have G_block_places := ok_block_places (P := P) (w := w) (base := base) T
  have G_places_by := ok_places_by (P := P) (w := w) (base := base) T
  refine T.F_PackMachine___init__.ok sc_PackMachine___init__ (fun vs H Q E h => ?_) (fun cdv A outer s H vs Q E hr h => ?_)
  · obtain ⟨p, dx, tt, a, b, c, us, es, txs, k, rfl, _⟩ := h
    rfl
  · obtain ⟨p, dx, tt, a, b, c, us, es, txs, k, rfl, hp, h1, h2, h3, hel, h4, h5, ok, q⟩ := h
    refine ⟨_, (@pss_cons _ _ _ _ _ (kps_fld K (pv 0) (@pe_call _ _ _ _ _ _ _ _ _ _ _ _ _ _ _ _ G_places_by (hr.mono (by omega)) rfl T.m_places_by T.F_places_by.kp T.b_places_by .nil pass0 (@pa_cons _ _ _ _ _ (@pe_ix _ _ _ _ _ _ _ (kix_tup K) (pv 1) (@pe_int _ _ _ _) (fun _ _ => rfl)) (@pa_nil _) (by rfl)) (by decide) (by rfl) (by rfl)) rfl)
      (@pss_cons _ _ _ _ _ (kps_fld K (pv 0) (@pe_callTy _ _ _ _ _ _ _ _ _ (kcl_list K) (by rfl) T.z_list bb_list (@pa_cons _ _ _ _ _ (@pe_ix _ _ _ _ _ _ _ (kix_tup K) (pv 1) (@pe_int _ _ _ _) (fun _ _ => rfl)) (@pa_nil _) (by rfl)) (by decide) (by decide) (by rfl) (by rfl)) rfl)
      (@pss_cons _ _ _ _ _ (kps_fld K (pv 0) (@pe_callTy _ _ _ _ _ _ _ _ _ (kcl_list K) (by rfl) T.z_list bb_list (@pa_cons _ _ _ _ _ (@pe_ix _ _ _ _ _ _ _ (kix_tup K) (pv 1) (@pe_int _ _ _ _) (fun _ _ => rfl)) (@pa_nil _) (by rfl)) (by decide) (by decide) (by rfl) (by rfl)) rfl)
      (@pss_cons _ _ _ _ _ (kps_fld K (pv 0) (@pe_call _ _ _ _ _ _ _ _ _ _ _ _ _ _ _ _ G_block_places (hr.mono (by omega)) rfl T.m_block_places T.F_block_places.kp T.b_block_places .nil pass0 (@pa_cons _ _ _ _ _ (kpe_fld K (pv 0) rfl) (@pa_cons _ _ _ _ _ (@pe_op _ _ _ _ _ _ _ _ op_plus (pe_glob (by rfl) T.m_HEAD (by exact T.r_HEAD)) (@pe_ix _ _ _ _ _ _ _ (kix_list K) (kpe_fld K (pv 0) rfl) (@pe_int _ _ _ _) (fun _ _ => rfl))) (@pa_cons _ _ _ _ _ (@pe_ix _ _ _ _ _ _ _ (kix_list K) (kpe_fld K (pv 0) rfl) (@pe_int _ _ _ _) (fun _ _ => rfl)) (@pa_nil _) (by rfl)) (by rfl)) (by rfl)) (by decide) (by rfl) (by rfl)) rfl)
      (@pss_one _ _ _ (kps_fld K (pv 0) (@pe_call _ _ _ _ _ _ _ _ _ _ _ _ _ _ _ _ G_block_places (hr.mono (by omega)) rfl T.m_block_places T.F_block_places.kp T.b_block_places .nil pass0 (@pa_cons _ _ _ _ _ (kpe_fld K (pv 0) rfl) (@pa_cons _ _ _ _ _ (@pe_ix _ _ _ _ _ _ _ (kix_list K) (kpe_fld K (pv 0) rfl) (@pe_un _ _ _ _ _ _ un_neg (@pe_int _ _ _ _)) (fun _ _ => rfl)) (@pa_cons _ _ _ _ _ (@pe_ix _ _ _ _ _ _ _ (kix_list K) (kpe_fld K (pv 0) rfl) (@pe_int _ _ _ _) (fun _ _ => rfl)) (@pa_nil _) (by rfl)) (by rfl)) (by rfl)) (by decide) (by rfl) (by rfl)) rfl)))))), ?_⟩
    have np : ∀ {x : Addr} {o : HO}, H x = some o → (∀ C dx fs, o ≠ .ins C dx fs) → x ≠ p := fun e z => ne_of e hp (z _ _ _)
    have ntt := np h1 (fun _ _ _ z => nomatch z)
    have nb := np h4 (fun _ _ _ z => nomatch z)
    have nc := np h5 (fun _ _ _ z => nomatch z)
    walk_at "go"
    refine i_ixT (SqT.of h1) (atI_nat (j := 0) rfl) ?_
    walk_at "run"
    refine ⟨a, us, es, rfl, h2, h3, by omega, fun d H1 f1 s1 d1 => ?_⟩
    walk_at "run"
    refine ⟨p, _, dx, _, rfl, s1 _ _ hp, T.cl_PackMachine, T.n_PackMachine_places, by decide, ?_⟩
    have hdp : d ≠ p := (ne_of_none hp f1).symm
    have eA : upd H1 p (.ins t.c_PackMachine dx (putF "places" (.ref d) [])) p = some (.ins t.c_PackMachine dx (putF "places" (.ref d) [])) := upd_same
    have kA : ∀ x o, x ≠ p → H x = some o → upd H1 p (.ins t.c_PackMachine dx (putF "places" (.ref d) [])) x = some o := fun x o z e => by rw [upd_ne z]; exact s1 _ _ e
    have dA : DtAt w.params (upd H1 p (.ins t.c_PackMachine dx (putF "places" (.ref d) []))) d (plc es 0 []) := d1.mono (tups_updI (s1 _ _ hp)) (upd_ne hdp)
    generalize upd H1 p (.ins t.c_PackMachine dx (putF "places" (.ref d) [])) = HA at eA kA dA
    have frA : ∀ {x : Addr}, HA x = none → H x = none := fun {x} z => by
      cases e : H x with
      | none => rfl
      | some o =>
        rw [kA x o (fun q => by rw [q, eA] at z; cases z) e] at z
        cases z
    walk_at "run"
    refine i_ixT (SqT.of (kA _ _ ntt h1)) (atI_nat (j := 1) rfl) ?_
    walk_at "run"
    refine i_listL (SqL.of (kA _ _ nb h4)) ?_
    intro pt H3 f3 s3 e3
    walk_at "run"
    have l1 := length_putF "places" (V.ref d) []
    rw [List.length_nil] at l1
    refine ⟨p, _, dx, _, rfl, s3 _ _ eA, T.cl_PackMachine, T.n_PackMachine_texts, by omega, ?_⟩
    have l2 := length_putF "texts" (V.ref pt) (putF "places" (V.ref d) [])
    have htp : pt ≠ p := (ne_of_none eA f3).symm
    have eB : upd H3 p (.ins t.c_PackMachine dx (putF "texts" (.ref pt) (putF "places" (.ref d) []))) p = some (.ins t.c_PackMachine dx (putF "texts" (.ref pt) (putF "places" (.ref d) []))) := upd_same
    have kB : ∀ x o, x ≠ p → HA x = some o → upd H3 p (.ins t.c_PackMachine dx (putF "texts" (.ref pt) (putF "places" (.ref d) []))) x = some o := fun x o z e => by rw [upd_ne z]; exact s3 _ _ e
    have tB : upd H3 p (.ins t.c_PackMachine dx (putF "texts" (.ref pt) (putF "places" (.ref d) []))) pt = some (.lst (strsV txs)) := by rw [upd_ne htp]; exact e3
    have dB : DtAt w.params (upd H3 p (.ins t.c_PackMachine dx (putF "texts" (.ref pt) (putF "places" (.ref d) [])))) d (plc es 0 []) := (dt_same dA s3).mono (tups_updI (s3 _ _ eA)) (upd_ne hdp)
    generalize upd H3 p (.ins t.c_PackMachine dx (putF "texts" (.ref pt) (putF "places" (.ref d) []))) = HB at eB kB tB dB
    have frB : ∀ {x : Addr}, HB x = none → HA x = none := fun {x} z => by
      cases e : HA x with
      | none => rfl
      | some o =>
        rw [kB x o (fun q => by rw [q, eB] at z; cases z) e] at z
        cases z
    walk_at "run"
    refine i_ixT (SqT.of (kB _ _ ntt (kA _ _ ntt h1))) (atI_nat (j := 2) rfl) ?_
    walk_at "run"
    refine i_listL (SqL.of (kB _ _ nc (kA _ _ nc h5))) ?_
    intro pc H4 f4 s4 e4
    walk_at "run"
    refine ⟨p, _, dx, _, rfl, s4 _ _ eB, T.cl_PackMachine, T.n_PackMachine_cells, by omega, ?_⟩
    have l3 := length_putF "cells" (V.ref pc) (putF "texts" (V.ref pt) (putF "places" (V.ref d) []))
    have hcp : pc ≠ p := (ne_of_none eB f4).symm
    have eC : upd H4 p (.ins t.c_PackMachine dx (putF "cells" (.ref pc) (putF "texts" (.ref pt) (putF "places" (.ref d) [])))) p = some (.ins t.c_PackMachine dx (putF "cells" (.ref pc) (putF "texts" (.ref pt) (putF "places" (.ref d) [])))) := upd_same
    have kC : ∀ x o, x ≠ p → HB x = some o → upd H4 p (.ins t.c_PackMachine dx (putF "cells" (.ref pc) (putF "texts" (.ref pt) (putF "places" (.ref d) [])))) x = some o := fun x o z e => by rw [upd_ne z]; exact s4 _ _ e
    have cC : upd H4 p (.ins t.c_PackMachine dx (putF "cells" (.ref pc) (putF "texts" (.ref pt) (putF "places" (.ref d) [])))) pc = some (.lst (natsV k.cells)) := by rw [upd_ne hcp]; exact e4
    have dC : DtAt w.params (upd H4 p (.ins t.c_PackMachine dx (putF "cells" (.ref pc) (putF "texts" (.ref pt) (putF "places" (.ref d) []))))) d (plc es 0 []) := (dt_same dB s4).mono (tups_updI (s4 _ _ eB)) (upd_ne hdp)
    generalize upd H4 p (.ins t.c_PackMachine dx (putF "cells" (.ref pc) (putF "texts" (.ref pt) (putF "places" (.ref d) [])))) = HC at eC kC cC dC
    have frC : ∀ {x : Addr}, HC x = none → HB x = none := fun {x} z => by
      cases e : HB x with
      | none => rfl
      | some o =>
        rw [kC x o (fun q => by rw [q, eC] at z; cases z) e] at z
        cases z
    have tC' := kC _ _ htp tB
    have lkC : (putF "cells" (V.ref pc) (putF "texts" (V.ref pt) (putF "places" (V.ref d) []))).lookup ("cells" : Str) = some (.ref pc) := by rw [lookup_putF, if_pos rfl]
    walk_at "run"
    refine ⟨p, _, dx, _, _, rfl, eC, T.cl_PackMachine, T.n_PackMachine_cells, lkC, ?_⟩
    walk_at "run"
    refine ⟨p, _, dx, _, _, rfl, eC, T.cl_PackMachine, T.n_PackMachine_cells, lkC, ?_⟩
    walk_at "run"
    refine i_ixL (SqL.of cC) (v := .int (k.told.length : Nat)) (atI_nat (j := 0) rfl) ?_
    walk_at "run"
    refine ⟨p, _, dx, _, _, rfl, eC, T.cl_PackMachine, T.n_PackMachine_cells, lkC, ?_⟩
    walk_at "run"
    refine i_ixL (SqL.of cC) (v := .int (k.shs.length : Nat)) (atI_nat (j := 2) rfl) ?_
    walk_at "run"
    rw [show (4 : Int) + (k.told.length : Nat) = ((k.pre1.length : Nat) : Int) by rw [k.l1]; omega, show ((k.shs.length : Nat) : Int) = (((k.shs.map shL).length : Nat) : Int) by simp]
    have n1 := ok.nsh
    have n2 := ok.nsy
    refine ⟨pc, k.cells, k.pre1, blocks k.sys, k.shs.map shL, rfl, cC, k.c1, by simp; omega, fun ph H5 f5 s5 e5 => ?_⟩
    walk_at "run"
    refine ⟨p, _, dx, _, rfl, s5 _ _ eC, T.cl_PackMachine, T.n_PackMachine_shapes, by omega, ?_⟩
    have l4 := length_putF "shapes" (V.ref ph) (putF "cells" (V.ref pc) (putF "texts" (V.ref pt) (putF "places" (V.ref d) [])))
    have hhp : ph ≠ p := (ne_of_none eC f5).symm
    have eD : upd H5 p (.ins t.c_PackMachine dx (putF "shapes" (.ref ph) (putF "cells" (.ref pc) (putF "texts" (.ref pt) (putF "places" (.ref d) []))))) p = some (.ins t.c_PackMachine dx (putF "shapes" (.ref ph) (putF "cells" (.ref pc) (putF "texts" (.ref pt) (putF "places" (.ref d) []))))) := upd_same
    have kD : ∀ x o, x ≠ p → HC x = some o → upd H5 p (.ins t.c_PackMachine dx (putF "shapes" (.ref ph) (putF "cells" (.ref pc) (putF "texts" (.ref pt) (putF "places" (.ref d) []))))) x = some o := fun x o z e => by rw [upd_ne z]; exact s5 _ _ e
    have hD : upd H5 p (.ins t.c_PackMachine dx (putF "shapes" (.ref ph) (putF "cells" (.ref pc) (putF "texts" (.ref pt) (putF "places" (.ref d) []))))) ph = some (.lst (natsV (offs k.pre1.length (k.shs.map shL)))) := by rw [upd_ne hhp]; exact e5
    have dD : DtAt w.params (upd H5 p (.ins t.c_PackMachine dx (putF "shapes" (.ref ph) (putF "cells" (.ref pc) (putF "texts" (.ref pt) (putF "places" (.ref d) [])))))) d (plc es 0 []) := (dt_same dC s5).mono (tups_updI (s5 _ _ eC)) (upd_ne hdp)
    generalize upd H5 p (.ins t.c_PackMachine dx (putF "shapes" (.ref ph) (putF "cells" (.ref pc) (putF "texts" (.ref pt) (putF "places" (.ref d) []))))) = HD at eD kD hD dD
    have frD : ∀ {x : Addr}, HD x = none → HC x = none := fun {x} z => by
      cases e : HC x with
      | none => rfl
      | some o =>
        rw [kD x o (fun q => by rw [q, eD] at z; cases z) e] at z
        cases z
    have cD := kD _ _ hcp cC
    have tD := kD _ _ htp tC'
    have lkD : (putF "shapes" (V.ref ph) (putF "cells" (V.ref pc) (putF "texts" (V.ref pt) (putF "places" (V.ref d) [])))).lookup ("cells" : Str) = some (.ref pc) := by rw [lookup_putF, if_neg (by decide +kernel), lookup_putF, if_pos rfl]
    have lkE : (putF "shapes" (V.ref ph) (putF "cells" (V.ref pc) (putF "texts" (V.ref pt) (putF "places" (V.ref d) [])))).lookup ("shapes" : Str) = some (.ref ph) := by rw [lookup_putF, if_pos rfl]
    walk_at "run"
    refine ⟨p, _, dx, _, _, rfl, eD, T.cl_PackMachine, T.n_PackMachine_cells, lkD, ?_⟩
    walk_at "run"
    refine ⟨p, _, dx, _, _, rfl, eD, T.cl_PackMachine, T.n_PackMachine_shapes, lkE, ?_⟩
    walk_at "run"
    refine i_ixL (SqL.of hD) (v := .int (k.pre2.length : Nat)) (by
      unfold offs
      rw [offsT_succ, ← natsV_snoc, ← k.l2]
      exact atI_last _ _) ?_
    walk_at "run"
    refine ⟨p, _, dx, _, _, rfl, eD, T.cl_PackMachine, T.n_PackMachine_cells, lkD, ?_⟩
    walk_at "run"
    refine i_ixL (SqL.of cD) (v := .int (k.sys.length : Nat)) (atI_nat (j := 1) rfl) ?_
    walk_at "run"
    refine ⟨pc, k.cells, k.pre2, [], k.sys, rfl, cD, k.c2, by omega, fun py H6 f6 s6 e6 => ?_⟩
    walk_at "run"
    refine ⟨p, _, dx, _, rfl, s6 _ _ eD, T.cl_PackMachine, T.n_PackMachine_sayings, by omega, ?_⟩
    have hyp : py ≠ p := (ne_of_none eD f6).symm
    have kE : ∀ x o, x ≠ p → HD x = some o → upd H6 p (.ins t.c_PackMachine dx (pm d pt pc ph py)) x = some o := fun x o z e => by rw [upd_ne z]; exact s6 _ _ e
    walk_at "run"
    refine q d pt pc ph py _ ⟨dx, upd_same, (dt_same dD s6).mono (tups_updI (s6 _ _ eD)) (upd_ne hdp), kE _ _ htp tD, kE _ _ hcp cD, kE _ _ hhp hD, by rw [upd_ne hyp]; exact e6⟩ ?_ fun x o e z => kE x o z (kD x o z (kC x o z (kB x o z (kA x o z e))))
    intro x hx
    simp only [List.mem_cons, List.not_mem_nil, or_false] at hx
    rcases hx with rfl | rfl | rfl | rfl | rfl
    · exact f1
    · exact frA f3
    · exact frA (frB f4)
    · exact frA (frB (frC f5))
    · exact frA (frB (frC (frD f6)))
def sp_saidby (K : PySem.W.Frag) (P : Params) (C : Addr) : Sp := fun vs H Q _ => ∃ (p d tx c sh sy : Addr) (es : List Ev) (txs : List Str) (k : Pk) (n : Nat) (l : List Nat), vs = [.ref p, .int (n : Nat)] ∧ PAt P C H p d tx c sh sy es txs k ∧ PkOk k txs.length ∧ k.sys[n]? = some l ∧ ∀ pl H', H pl = none → Same H H' → H' pl = some (.lst (strsV (txOf txs l))) → Q (.ref pl) H'
theorem ok_PackMachine_said_by (T : Txt K mg t) : FnOk P w K mg base CX0 3 t.a_PackMachine_said_by t.fd_PackMachine_said_by ["self", "saying"] (sp_saidby K w.params t.c_PackMachine) := by
  have G_texts_at := ok_texts_at (P := P) (w := w) (base := base) T
  refine T.F_PackMachine_said_by.ok sc_PackMachine_said_by (fun vs H Q E h => ?_) (fun cdv A outer s H vs Q E hr h => ?_)
  · obtain ⟨p, d, tx, c, sh, sy, es, txs, k, n, l, rfl, _⟩ := h
    rfl
  · obtain ⟨p, d, tx, c, sh, sy, es, txs, k, n, l, rfl, hM, ok, hn, q⟩ := h
    refine ⟨_, (@pss_one _ _ _ (@ps_ret _ _ _ _ (@pe_call _ _ _ _ _ _ _ _ _ _ _ _ _ _ _ _ G_texts_at (hr.mono (by omega)) rfl T.m_texts_at T.F_texts_at.kp T.b_texts_at .nil pass0 (@pa_cons _ _ _ _ _ (kpe_fld K (pv 0) rfl) (@pa_cons _ _ _ _ _ (kpe_fld K (pv 0) rfl) (@pa_cons _ _ _ _ _ (@pe_ix _ _ _ _ _ _ _ (kix_list K) (kpe_fld K (pv 0) rfl) (pv 1) (fun _ _ => rfl)) (@pa_nil _) (by rfl)) (by rfl)) (by rfl)) (by decide) (by rfl) (by rfl)))), ?_⟩
    obtain ⟨dx, h1, h2, h3, h4, h5, h6⟩ := hM.ex
    obtain ⟨o1, o2⟩ := ok.sy l (List.mem_of_getElem? hn)
    obtain ⟨x1, x2⟩ := cells_at k.c2 hn
    walk_at "go"
    refine ⟨p, _, dx, _, _, rfl, h1, T.cl_PackMachine, T.n_PackMachine_texts, pm_texts _ _ _ _ _, ?_⟩
    walk_at "run"
    refine ⟨p, _, dx, _, _, rfl, h1, T.cl_PackMachine, T.n_PackMachine_cells, pm_cells _ _ _ _ _, ?_⟩
    walk_at "run"
    refine ⟨p, _, dx, _, _, rfl, h1, T.cl_PackMachine, T.n_PackMachine_sayings, pm_sayings _ _ _ _ _, ?_⟩
    walk_at "run"
    refine i_ixL (SqL.of h6) (atI_nat (natsV_at (offs_at (Nat.le_of_lt (List.getElem?_eq_some_iff.mp hn).1)))) ?_
    walk_at "run"
    exact ⟨tx, c, txs, k.cells, l, _, rfl, h3, h4, x1, x2, o2, by omega, fun pl H1 f1 s1 e1 => q pl H1 f1 s1 e1⟩
def sp_begin (K : PySem.W.Frag) (P : Params) (C : Addr) : Sp := fun vs H Q _ => ∃ (p d tx c sh sy : Addr) (es : List Ev) (txs : List Str) (k : Pk) (l : List Nat), vs = [.ref p] ∧ PAt P C H p d tx c sh sy es txs k ∧ PkOk k txs.length ∧ k.sys[k.say]? = some l ∧ ∀ kk pl H', Same H H' → H' kk = some (.tup [.ref pl, .int 0]) → H' pl = some (.lst (strsV (txOf txs l))) → Q (.ref kk) H'
theorem ok_PackMachine_begin (T : Txt K mg t) : FnOk P w K mg base CX0 4 t.a_PackMachine_begin t.fd_PackMachine_begin ["self"] (sp_begin K w.params t.c_PackMachine) := by
  have G_PackMachine_said_by := ok_PackMachine_said_by (P := P) (w := w) (base := base) T
  refine T.F_PackMachine_begin.ok sc_PackMachine_begin (fun vs H Q E h => ?_) (fun cdv A outer s H vs Q E hr h => ?_)
  · obtain ⟨p, d, tx, c, sh, sy, es, txs, k, l, rfl, _⟩ := h
    rfl
  · obtain ⟨p, d, tx, c, sh, sy, es, txs, k, l, rfl, hM, ok, hn, q⟩ := h
    refine ⟨_, (@pss_one _ _ _ (@ps_ret _ _ _ _ (@pe_tupN _ _ _ _ _ (@pa_cons _ _ _ _ _ (pe_meth (pv 0) T.cl_PackMachine T.M_PackMachine_said_by G_PackMachine_said_by (hr.mono (by omega)) T.b_PackMachine_said_by .nil pass0 (@pa_cons _ _ _ _ _ (@pe_ix _ _ _ _ _ _ _ (kix_list K) (kpe_fld K (pv 0) rfl) (@pe_op _ _ _ _ _ _ _ _ op_sub (pe_glob (by rfl) T.m_HEAD (by exact T.r_HEAD)) (@pe_int _ _ _ _)) (fun _ _ => rfl)) (@pa_nil _) (by rfl))) (@pa_cons _ _ _ _ _ (@pe_int _ _ _ _) (@pa_nil _) (by rfl)) (by rfl))))), ?_⟩
    obtain ⟨dx, h1, h2, h3, h4, h5, h6⟩ := hM.ex
    walk_at "go"
    refine ⟨p, dx, _, rfl, h1, pm_no _ _ _ _ _ (by decide +kernel) (by decide +kernel) (by decide +kernel) (by decide +kernel) (by decide +kernel), ?_⟩
    walk_at "run"
    refine ⟨p, _, dx, _, _, rfl, h1, T.cl_PackMachine, T.n_PackMachine_cells, pm_cells _ _ _ _ _, ?_⟩
    walk_at "run"
    refine i_ixL (SqL.of h4) (v := .int (k.say : Nat)) (atI_nat (j := 3) rfl) ?_
    walk_at "run"
    refine ⟨p, d, tx, c, sh, sy, es, txs, k, k.say, l, rfl, hM, ok, hn, fun pl H1 f1 s1 e1 => ?_⟩
    walk_at "run"
    intro p2 H2 f2 s2 e2
    exact q p2 pl H2 (s1.trans s2) e2 (s2 _ _ e1)
def sp_over (K : PySem.W.Frag) (P : Params) (C : Addr) : Sp := fun vs H Q _ => ∃ (p d tx c sh sy : Addr) (es : List Ev) (txs : List Str) (k : Pk) (n t : Nat), vs = [.ref p, .int (n : Nat)] ∧ PAt P C H p d tx c sh sy es txs k ∧ k.told[n]? = some t ∧ Q (.bl (decide ((t : Int) % 2 = 1))) H
theorem ok_PackMachine_over (T : Txt K mg t) : FnOk P w K mg base CX0 1 t.a_PackMachine_over t.fd_PackMachine_over ["self", "standing"] (sp_over K w.params t.c_PackMachine) := by
  refine T.F_PackMachine_over.ok sc_PackMachine_over (fun vs H Q E h => ?_) (fun cdv A outer s H vs Q E hr h => ?_)
  · obtain ⟨p, d, tx, c, sh, sy, es, txs, k, n, t, rfl, _⟩ := h
    rfl
  · obtain ⟨p, d, tx, c, sh, sy, es, txs, k, n, tl, rfl, hM, hn, q⟩ := h
    refine ⟨_, (@pss_one _ _ _ (@ps_ret _ _ _ _ (@pe_cmpR _ _ _ _ _ _ _ _ op_eq (@pe_op _ _ _ _ _ _ _ _ op_mod (@pe_ix _ _ _ _ _ _ _ (kix_list K) (kpe_fld K (pv 0) rfl) (@pe_op _ _ _ _ _ _ _ _ op_plus (pe_glob (by rfl) T.m_HEAD (by exact T.r_HEAD)) (pv 1)) (fun _ _ => rfl)) (@pe_int _ _ _ _)) (@pe_int _ _ _ _) (nomark _)))), ?_⟩
    obtain ⟨dx, h1, h2, h3, h4, h5, h6⟩ := hM.ex
    walk_at "go"
    refine ⟨p, _, dx, _, _, rfl, h1, T.cl_PackMachine, T.n_PackMachine_cells, pm_cells _ _ _ _ _, ?_⟩
    walk_at "run"
    rw [show (4 : Int) + (n : Nat) = ((4 + n : Nat) : Int) by omega]
    refine i_ixL (SqL.of h4) (atI_nat (natsV_at (k.at4 hn))) ?_
    walk_at "run"
    exact q
def sp_values : Sp := fun vs H Q _ => ∃ (u v : V), vs = [u, v] ∧ ∀ k H', Same H H' → H' k = some (.tup []) → Q (.ref k) H'
theorem ok_PackMachine_values (T : Txt K mg t) : FnOk P w K mg base CX0 1 t.a_PackMachine_values t.fd_PackMachine_values ["self", "standing"] sp_values := by
  refine T.F_PackMachine_values.ok sc_PackMachine_values (fun vs H Q E h => ?_) (fun cdv A outer s H vs Q E hr h => ?_)
  · obtain ⟨u, v, rfl, _⟩ := h
    rfl
  · obtain ⟨u, v, rfl, q⟩ := h
    refine ⟨_, (@pss_one _ _ _ (@ps_ret _ _ _ _ (@pe_tupN _ _ _ _ _ (@pa_nil _)))), ?_⟩
    walk_at "go"
    intro k H1 f1 s1 e1
    exact q k H1 s1 e1
def pick (h : Sh) (j : Nat) : Nat × Nat := match h.2.find? (fun t => t.1 == j) with
  | some t => t.2
  | none => h.1
theorem pick_some {h : Sh} {j i : Nat} {t : Tri} (e : h.2[i]? = some t) (hj : t.1 = j) (hn : ∀ x ∈ h.2.take i, ¬ x.1 = j) : pick h j = t.2 := by
  have e2 : h.2 = h.2.take i ++ t :: h.2.drop (i + 1) := by
    conv => lhs; rw [← List.take_append_drop i h.2, List.drop_eq_getElem_cons (List.getElem?_eq_some_iff.mp e).1]
    rw [(List.getElem?_eq_some_iff.mp e).2]
  have hf : h.2.find? (fun t => t.1 == j) = some t := by
    rw [e2, List.find?_append, List.find?_eq_none.mpr fun x hx => by simpa using hn x hx]
    simp [hj]
  unfold pick
  rw [hf]
theorem pick_none {h : Sh} {j : Nat} (hn : ∀ x ∈ h.2, ¬ x.1 = j) : pick h j = h.1 := by
  unfold pick
  rw [List.find?_eq_none.mpr fun x hx => by simpa using hn x hx]
def sp_step (K : PySem.W.Frag) (P : Params) (C : Addr) : Sp := fun vs H Q _ => ∃ (p d tx c sh sy : Addr) (es : List Ev) (txs : List Str) (k : Pk) (n t j : Nat) (h : Sh) (v : V) (e : Ev) (l : List Nat), vs = [.ref p, .int (n : Nat), v] ∧ PAt P C H p d tx c sh sy es txs k ∧ PkOk k txs.length ∧ k.told[n]? = some t ∧ k.shs[t / 2]? = some h ∧ e.tr.At H v [] ∧ plOf es e = some (.int (j : Nat)) ∧ k.sys[(pick h j).1]? = some l ∧ ∀ kk pl H', Same H H' → H' kk = some (.tup [.ref pl, .int ((pick h j).2 : Nat)]) → H' pl = some (.lst (strsV (txOf txs l))) → Q (.ref kk) H'
theorem ok_PackMachine_step (T : Txt K mg t) : FnOk P w K mg base CX0 4 t.a_PackMachine_step t.fd_PackMachine_step ["self", "standing", "event"] (sp_step K w.params t.c_PackMachine) := by
  have G_PackMachine_said_by := ok_PackMachine_said_by (P := P) (w := w) (base := base) T
  have G_cells_in := ok_cells_in (P := P) (w := w) (base := base) T
  have G_others_in := ok_others_in (P := P) (w := w) (base := base) T
  have G_place_of := ok_place_of (P := P) (w := w) (base := base) T
  refine T.F_PackMachine_step.ok sc_PackMachine_step (fun vs H Q E h => ?_) (fun cdv A outer s H vs Q E hr h => ?_)
  · obtain ⟨p, d, tx, c, sh, sy, es, txs, k, n, t, j, h, v, e, l, rfl, _⟩ := h
    rfl
  · obtain ⟨p, d, tx, c, sh, sy, es, txs, k, n, tl, j, h, v, e, l, rfl, hM, ok, hn, hh, hv, hj, hl, q⟩ := h
    refine ⟨_, (@pss_cons _ _ _ _ _ (@ps_set _ _ 3 _ _ _ _ sc_PackMachine_step.nd rfl (by first | exact Or.inl rfl | exact Or.inr rfl) (@pe_call _ _ _ _ _ _ _ _ _ _ _ _ _ _ _ _ G_cells_in (hr.mono (by omega)) rfl T.m_cells_in T.F_cells_in.kp T.b_cells_in .nil pass0 (@pa_cons _ _ _ _ _ (kpe_fld K (pv 0) rfl) (@pa_cons _ _ _ _ _ (@pe_ix _ _ _ _ _ _ _ (kix_list K) (kpe_fld K (pv 0) rfl) (@pe_op _ _ _ _ _ _ _ _ op_fdiv (@pe_ix _ _ _ _ _ _ _ (kix_list K) (kpe_fld K (pv 0) rfl) (@pe_op _ _ _ _ _ _ _ _ op_plus (pe_glob (by rfl) T.m_HEAD (by exact T.r_HEAD)) (pv 1)) (fun _ _ => rfl)) (@pe_int _ _ _ _)) (fun _ _ => rfl)) (@pa_nil _) (by rfl)) (by rfl)) (by decide) (by rfl) (by rfl)) (by rfl) (by first | exact Or.inl rfl | exact Or.inr rfl))
      (@pss_cons _ _ _ _ _ (@ps_set _ _ 4 _ _ _ _ sc_PackMachine_step.nd rfl (by first | exact Or.inl rfl | exact Or.inr rfl) (@pe_call _ _ _ _ _ _ _ _ _ _ _ _ _ _ _ _ G_place_of (hr.mono (by omega)) rfl T.m_place_of T.F_place_of.kp T.b_place_of .nil pass0 (@pa_cons _ _ _ _ _ (kpe_fld K (pv 0) rfl) (@pa_cons _ _ _ _ _ (pv 2) (@pa_nil _) (by rfl)) (by rfl)) (by decide) (by rfl) (by rfl)) (by rfl) (by first | exact Or.inl rfl | exact Or.inr rfl))
      (@pss_cons _ _ _ _ _ (@ps_for _ _ _ _ _ _ _ _ PassesOwn.never rfl (kpi_list K (@pe_call _ _ _ _ _ _ _ _ _ _ _ _ _ _ _ _ G_others_in (hr.mono (by omega)) rfl T.m_others_in T.F_others_in.kp T.b_others_in .nil pass0 (@pa_cons _ _ _ _ _ (pv 3) (@pa_nil _) (by rfl)) (by decide) (by rfl) (by rfl))) (kpg_tup K (n := 3) rfl (pgs_cons (pg_name (i := 5) sc_PackMachine_step.nd rfl (by first | exact Or.inl rfl | exact Or.inr rfl)) (pgs_cons (pg_name (i := 6) sc_PackMachine_step.nd rfl (by first | exact Or.inl rfl | exact Or.inr rfl)) (pgs_cons (pg_name (i := 7) sc_PackMachine_step.nd rfl (by first | exact Or.inl rfl | exact Or.inr rfl)) (@pgs_nil _))))) (@pss_one _ _ _ (@ps_if _ _ _ _ _ _ _ _ (@pt_cmpR _ _ _ _ _ _ _ _ op_eq (pv 5) (pv 4) (nomark _)) (@pss_one _ _ _ (@ps_ret _ _ _ _ (@pe_tupN _ _ _ _ _ (@pa_cons _ _ _ _ _ (pe_meth (pv 0) T.cl_PackMachine T.M_PackMachine_said_by G_PackMachine_said_by (hr.mono (by omega)) T.b_PackMachine_said_by .nil pass0 (@pa_cons _ _ _ _ _ (pv 6) (@pa_nil _) (by rfl))) (@pa_cons _ _ _ _ _ (pv 7) (@pa_nil _) (by rfl)) (by rfl))))) (@pss_nil _))) (by intro _; rfl))
      (@pss_one _ _ _ (@ps_ret _ _ _ _ (@pe_tupN _ _ _ _ _ (@pa_cons _ _ _ _ _ (pe_meth (pv 0) T.cl_PackMachine T.M_PackMachine_said_by G_PackMachine_said_by (hr.mono (by omega)) T.b_PackMachine_said_by .nil pass0 (@pa_cons _ _ _ _ _ (@pe_ix _ _ _ _ _ _ _ (kix_list K) (pv 3) (@pe_int _ _ _ _) (fun _ _ => rfl)) (@pa_nil _) (by rfl))) (@pa_cons _ _ _ _ _ (@pe_ix _ _ _ _ _ _ _ (kix_list K) (pv 3) (@pe_int _ _ _ _) (fun _ _ => rfl)) (@pa_nil _) (by rfl)) (by rfl)))))))), ?_⟩
    obtain ⟨dx, h1, h2, h3, h4, h5, h6⟩ := hM.ex
    obtain ⟨o1, o2, o3, o4, o5⟩ := ok.sh h (List.mem_of_getElem? hh)
    have hh2 : (k.shs.map shL)[tl / 2]? = some (shL h) := by rw [List.getElem?_map, hh]; rfl
    obtain ⟨x1, x2⟩ := cells_at k.c1 hh2
    walk_at "go"
    refine ⟨p, _, dx, _, _, rfl, h1, T.cl_PackMachine, T.n_PackMachine_cells, pm_cells _ _ _ _ _, ?_⟩
    walk_at "run"
    refine ⟨p, _, dx, _, _, rfl, h1, T.cl_PackMachine, T.n_PackMachine_shapes, pm_shapes _ _ _ _ _, ?_⟩
    walk_at "run"
    refine ⟨p, _, dx, _, _, rfl, h1, T.cl_PackMachine, T.n_PackMachine_cells, pm_cells _ _ _ _ _, ?_⟩
    walk_at "run"
    rw [show (4 : Int) + (n : Nat) = ((4 + n : Nat) : Int) by omega]
    refine i_ixL (SqL.of h4) (atI_nat (natsV_at (k.at4 hn))) ?_
    walk_at "run"
    rw [show ((tl : Nat) : Int) / 2 = ((tl / 2 : Nat) : Int) by omega]
    refine i_ixL (SqL.of h5) (atI_nat (natsV_at (offs_at (Nat.le_of_lt (List.getElem?_eq_some_iff.mp hh2).1)))) ?_
    walk_at "run"
    refine ⟨c, k.cells, shL h, _, rfl, h4, x1, x2, fun ps H1 f1 s1 e1 => ?_⟩
    walk_at "run"
    refine ⟨p, _, dx, _, _, rfl, s1 _ _ h1, T.cl_PackMachine, T.n_PackMachine_places, pm_places _ _ _ _ _, ?_⟩
    walk_at "run"
    refine ⟨d, v, es, e, rfl, dt_same h2 s1, hv.same s1, fun y hy => ?_⟩
    rw [hj] at hy
    cases hy
    walk_at "run"
    refine ⟨ps, h, rfl, e1, by omega, fun po acc H2 f2 s2 e2 ho => ?_⟩
    have al : acc.length = h.2.length := by rw [ho.len, List.length_map]
    refine ⟨po, rfl, ⟨_, SqL.of e2⟩, for_list (K := K) (a := po) (xs := acc) (fun i σ H' => H' = H2 ∧ (∀ x ∈ h.2.take i, ¬ x.1 = j) ∧ ∃ y1 y2 y3, σ = [some (.ref p), some (.int (n : Nat)), some v, some (.ref ps), some (.int (j : Nat)), y1, y2, y3]) ⟨rfl, by simp, _, _, _, rfl⟩ (fun i σ H' _ ⟨e, _⟩ => e ▸ SqL.of e2) ?_ ?_⟩
    · rintro i x σ H' hx ⟨rfl, hno, y1, y2, y3, rfl⟩
      obtain ⟨tt, ff, ht1, ht2, _⟩ := ho.get i x hx
      rw [List.getElem?_map] at ht1
      obtain ⟨t3, ht3, rfl⟩ := Option.map_eq_some_iff.mp ht1
      obtain ⟨kk, rfl, hkk, _⟩ := trip_w.mp ht2
      refine i_asgT (SqT.of hkk) rfl ?_
      walk_at "run"
      have s02 := s1.trans s2
      refine ite2 (fun hc => ?_) (fun hc => ?_)
      · have hc' : t3.1 = j := by have := of_decide_eq_true hc; omega
        have hp := pick_some ht3 hc' hno
        rw [hp] at hl q
        walk_at "run"
        refine ⟨p, dx, _, rfl, s02 _ _ h1, pm_no _ _ _ _ _ (by decide +kernel) (by decide +kernel) (by decide +kernel) (by decide +kernel) (by decide +kernel), ?_⟩
        walk_at "run"
        refine ⟨p, d, tx, c, sh, sy, es, txs, k, t3.2.1, l, rfl, hM.same s02, ok, hl, fun pl H3 f3 s3 e3 => ?_⟩
        walk_at "run"
        intro p4 H4 f4 s4 e4
        exact q p4 pl H4 (s02.trans (s3.trans s4)) e4 (s4 _ _ e3)
      · have hc' : ¬ t3.1 = j := fun z => hc (decide_eq_true (by omega))
        walk_at "run"
        refine ⟨rfl, fun x hx => ?_, _, _, _, rfl⟩
        rw [List.take_add_one, ht3] at hx
        rcases List.mem_append.mp hx with hx | hx
        · exact hno x hx
        · simp at hx
          rw [hx]
          exact hc'
    · rintro σ H' ⟨rfl, hno, y1, y2, y3, rfl⟩
      rw [al, List.take_length] at hno
      have hp := pick_none hno
      rw [hp] at hl q
      have s02 := s1.trans s2
      walk_at "run"
      refine ⟨p, dx, _, rfl, s02 _ _ h1, pm_no _ _ _ _ _ (by decide +kernel) (by decide +kernel) (by decide +kernel) (by decide +kernel) (by decide +kernel), ?_⟩
      walk_at "run"
      refine i_ixL (SqL.of (s2 _ _ e1)) (v := .int (h.1.1 : Nat)) (atI_nat (j := 0) rfl) ?_
      walk_at "run"
      refine ⟨p, d, tx, c, sh, sy, es, txs, k, h.1.1, l, rfl, hM.same s02, ok, hl, fun pl H3 f3 s3 e3 => ?_⟩
      walk_at "run"
      refine i_ixL (SqL.of (s3 _ _ (s2 _ _ e1))) (v := .int (h.1.2 : Nat)) (atI_nat (j := 1) rfl) ?_
      walk_at "run"
      intro p4 H4 f4 s4 e4
      exact q p4 pl H4 (s02.trans (s3.trans s4)) e4 (s4 _ _ e3)
def ShOk (S R : Nat) (h : Sh) : Prop := h.1.1 < S ∧ h.1.2 < R ∧ (∀ t ∈ h.2, t.2.1 < S ∧ t.2.2 < R) ∧ (h.2.map (·.1)).Nodup ∧ h.2.length ≤ 100
theorem shL_snoc (h : Sh) (a b c : Nat) : natsV (shL h) ++ [V.int (a : Nat), V.int (b : Nat), V.int (c : Nat)] = natsV (shL (h.1, h.2 ++ [(a, b, c)])) := by simp [shL, flat3, natsV]
theorem shL_len (h : Sh) : (shL h).length = h.2.length * 3 + 2 := by simp [shL, flat3_len]
def sp_shape (K : PySem.W.Frag) : Sp := fun vs H Q _ => ∃ (s : Addr) (z : Int) (E S R : Nat), vs = [.ref s, .int (E : Nat), .int (S : Nat), .int (R : Nat)] ∧ StA H s z ∧ E ≤ 100 ∧ 0 < S ∧ S ≤ 100 ∧ 0 < R ∧ R ≤ 100 ∧ ∀ p h H', H p = none → H' p = some (.lst (natsV (shL h))) → ShOk S R h → Oth s H H' → Q (.ref p) H'
theorem ok_law_shape (T : Txt K mg t) : FnOk P w K mg base CX0 2 t.a__law_shape t.fd__law_shape ["state", "events", "says", "rooms"] (sp_shape K) := by
  have G__law_take := ok_law_take (P := P) (w := w) (base := base) T
  refine T.F__law_shape.ok sc_law_shape (fun vs H Q E h => ?_) (fun cdv A outer s H vs Q E hr h => ?_)
  · obtain ⟨s, z, E, S, R, rfl, _⟩ := h
    rfl
  · obtain ⟨s0, z, En, S, R, rfl, k, hE, hS, hS2, hR, hR2, q⟩ := h
    refine ⟨_, (@pss_cons _ _ _ _ _ (@ps_set _ _ 4 _ _ _ _ sc_law_shape.nd rfl (by first | exact Or.inl rfl | exact Or.inr rfl) (@pe_lstN _ _ _ _ (@pa_cons _ _ _ _ _ (@pe_call _ _ _ _ _ _ _ _ _ _ _ _ _ _ _ _ G__law_take (hr.mono (by omega)) rfl T.m__law_take T.F__law_take.kp T.b__law_take .nil pass0 (@pa_cons _ _ _ _ _ (pv 0) (@pa_cons _ _ _ _ _ (pv 2) (@pa_nil _) (by rfl)) (by rfl)) (by decide) (by rfl) (by rfl)) (@pa_cons _ _ _ _ _ (@pe_call _ _ _ _ _ _ _ _ _ _ _ _ _ _ _ _ G__law_take (hr.mono (by omega)) rfl T.m__law_take T.F__law_take.kp T.b__law_take .nil pass0 (@pa_cons _ _ _ _ _ (pv 0) (@pa_cons _ _ _ _ _ (pv 3) (@pa_nil _) (by rfl)) (by rfl)) (by decide) (by rfl) (by rfl)) (@pa_nil _) (by rfl)) (by rfl))) (by rfl) (by first | exact Or.inl rfl | exact Or.inr rfl))
      (@pss_cons _ _ _ _ _ (@ps_for _ _ _ _ _ _ _ _ PassesOwn.never rfl (pi_range1 rfl T.z_range (@pa_cons _ _ _ _ _ (pv 1) (@pa_nil _) (by rfl))) (pg_name (i := 5) sc_law_shape.nd rfl (by first | exact Or.inl rfl | exact Or.inr rfl)) (@pss_one _ _ _ (@ps_if _ _ _ _ _ _ _ _ (@pt_cmpR _ _ _ _ _ _ _ _ op_eq (@pe_call _ _ _ _ _ _ _ _ _ _ _ _ _ _ _ _ G__law_take (hr.mono (by omega)) rfl T.m__law_take T.F__law_take.kp T.b__law_take .nil pass0 (@pa_cons _ _ _ _ _ (pv 0) (@pa_cons _ _ _ _ _ (@pe_int _ _ _ _) (@pa_nil _) (by rfl)) (by rfl)) (by decide) (by rfl) (by rfl)) (@pe_int _ _ _ _) (nomark _)) (@pss_one _ _ _ (@ps_set _ _ 4 _ _ _ _ sc_law_shape.nd rfl (by first | exact Or.inl rfl | exact Or.inr rfl) (@pe_op _ _ _ _ _ _ _ _ op_plus (pv 4) (@pe_lstN _ _ _ _ (@pa_cons _ _ _ _ _ (pv 5) (@pa_cons _ _ _ _ _ (@pe_call _ _ _ _ _ _ _ _ _ _ _ _ _ _ _ _ G__law_take (hr.mono (by omega)) rfl T.m__law_take T.F__law_take.kp T.b__law_take .nil pass0 (@pa_cons _ _ _ _ _ (pv 0) (@pa_cons _ _ _ _ _ (pv 2) (@pa_nil _) (by rfl)) (by rfl)) (by decide) (by rfl) (by rfl)) (@pa_cons _ _ _ _ _ (@pe_call _ _ _ _ _ _ _ _ _ _ _ _ _ _ _ _ G__law_take (hr.mono (by omega)) rfl T.m__law_take T.F__law_take.kp T.b__law_take .nil pass0 (@pa_cons _ _ _ _ _ (pv 0) (@pa_cons _ _ _ _ _ (pv 3) (@pa_nil _) (by rfl)) (by rfl)) (by decide) (by rfl) (by rfl)) (@pa_nil _) (by rfl)) (by rfl)) (by rfl)))) (by rfl) (by first | exact Or.inl rfl | exact Or.inr rfl))) (@pss_nil _))) (by intro _; rfl))
      (@pss_one _ _ _ (@ps_ret _ _ _ _ (pv 4))))), ?_⟩
    have sl : (1000000 : Nat) ≤ sizeLine := le_line (Nat.le_refl _)
    walk_at "go"
    refine ⟨s0, z, S, rfl, k, hS, by omega, fun r1 H1 hr1 o1 k1 => ?_⟩
    walk_at "run"
    refine ⟨s0, z, R, rfl, k1, hR, by omega, fun r2 H2 hr2 o2 k2 => ?_⟩
    walk_at "run"
    intro p3 H3 f3 s3 e3
    walk_at "run"
    rw [Int.toNat_natCast]
    have o02 := o1.trans o2
    refine for_range (lo := 0) (n := En) (fun i σ H' => Oth s0 H H' ∧ StA H' s0 z ∧ ∃ (p : Addr) (h : Sh) (y : Option V), σ = [some (.ref s0), some (.int (En : Nat)), some (.int (S : Nat)), some (.int (R : Nat)), some (.ref p), y] ∧ H p = none ∧ H' p = some (.lst (natsV (shL h))) ∧ h.1.1 < S ∧ h.1.2 < R ∧ (∀ t ∈ h.2, t.1 < i ∧ t.2.1 < S ∧ t.2.2 < R) ∧ (h.2.map (·.1)).Nodup ∧ h.2.length ≤ i) ⟨o02.trans (oth_same s3), k2.same s3, p3, ((r1, r2), []), _, rfl, o02.free k2 f3, e3, hr1, hr2, by simp, by simp, by simp⟩ ?_ ?_
    · rintro i σ H4 hi ⟨o4, k4, p, h, y, rfl, fp, hp, h1, h2, h3, h4, h5⟩
      rw [Int.zero_add]
      have hps : p ≠ s0 := k.ne fp
      walk_at "run"
      refine ⟨s0, z, 2, rfl, k4, by decide, by decide, fun r H5 hr o5 k5 => ?_⟩
      walk_at "run"
      have hp5 := o5 _ _ hps hp
      refine ite2 (fun hc => ?_) (fun hc => ?_)
      · walk_at "run"
        refine ⟨s0, z, S, rfl, k5, hS, by omega, fun r3 H6 hr3 o6 k6 => ?_⟩
        walk_at "run"
        refine ⟨s0, z, R, rfl, k6, hR, by omega, fun r4 H7 hr4 o7 k7 => ?_⟩
        walk_at "run"
        intro p8 H8 f8 s8 e8
        walk_at "run"
        have hp8 := s8 _ _ (o7 _ _ hps (o6 _ _ hps hp5))
        refine i_plusL hp8 e8 (by rw [natsV_len, shL_len]; simp only [List.length_cons, List.length_nil]; omega) ?_
        intro p9 H9 f9 s9 e9
        walk_at "run"
        have oA : Oth s0 H H7 := o4.trans (o5.trans (o6.trans o7))
        refine ⟨oA.trans (oth_same (s8.trans s9)), k7.same (s8.trans s9), p9, (h.1, h.2 ++ [(i, r3, r4)]), _, rfl, oA.free k7 (s8.free f9), by rw [e9, shL_snoc], h1, h2, fun t ht => ?_, ?_, by simp; omega⟩
        · rcases List.mem_append.mp ht with ht | ht
          · obtain ⟨x1, x2⟩ := h3 t ht
            exact ⟨by omega, x2⟩
          · rw [List.mem_singleton.mp ht]
            exact ⟨by omega, hr3, hr4⟩
        · rw [List.map_append, List.nodup_append]
          refine ⟨h4, by simp, fun a ha b hb => ?_⟩
          obtain ⟨t, ht, rfl⟩ := List.mem_map.mp ha
          have hb' : b = i := by simpa using hb
          have := (h3 t ht).1
          omega
      · walk_at "run"
        exact ⟨o4.trans o5, k5, p, h, _, rfl, fp, hp5, h1, h2, fun t ht => ⟨by have := (h3 t ht).1; omega, (h3 t ht).2⟩, h4, by omega⟩
    · rintro σ H4 ⟨o4, k4, p, h, y, rfl, fp, hp, h1, h2, h3, h4, h5⟩
      walk_at "run"
      exact q p h H4 fp hp ⟨h1, h2, fun t ht => (h3 t ht).2, h4, by omega⟩ o4
def Rel (pf : Addr) (z : Int) (H9 H' : Hp) : Prop := Oth pf H9 H' ∧ StA H' pf z
theorem Rel.same {pf : Addr} {z : Int} {H9 H' H'' : Hp} (r : Rel pf z H9 H') (s : Same H' H'') : Rel pf z H9 H'' := ⟨r.1.trans (oth_same s), r.2.same s⟩
theorem Rel.upd {pf x : Addr} {z : Int} {H9 H' : Hp} {o : HO} (r : Rel pf z H9 H') (h : H9 x = none) (hx : x ≠ pf := by assumption) : Rel pf z H9 (L2.upd H' x o) := by
  refine ⟨fun y u hy e => ?_, ?_⟩
  · rw [upd_ne (ne_of_none e h)]
    exact r.1 y u hy e
  · obtain ⟨v, e⟩ := r.2
    exact ⟨v, by rw [upd_ne (Ne.symm hx)]; exact e⟩
def ShsAt (H : Hp) (shs : List Sh) (acc : List V) (fs : List Addr) : Prop := Tw.Ats H (shs.map fun h => lstW (shL h)) acc fs
theorem ShsAt.len {H : Hp} {shs : List Sh} {acc : List V} {fs : List Addr} (h : ShsAt H shs acc fs) : acc.length = (shs.map fun h => lstW (shL h)).length := Tw.Ats.len h
theorem ShsAt.same {H H' : Hp} {shs : List Sh} {acc : List V} {fs : List Addr} (h : ShsAt H shs acc fs) (s : Same H H') : ShsAt H' shs acc fs := Tw.Ats.same h s
theorem ShsAt.mono {H H' : Hp} {shs : List Sh} {acc : List V} {fs : List Addr} (h : ShsAt H shs acc fs) (k : Keep fs H H') : ShsAt H' shs acc fs := Tw.Ats.mono h k
theorem ShsAt.snoc {H : Hp} {shs : List Sh} {acc : List V} {fs : List Addr} {h : Sh} {p : Addr} (x : ShsAt H shs acc fs) (e : H p = some (.lst (natsV (shL h)))) : ShsAt H (shs ++ [h]) (acc ++ [.ref p]) (fs ++ [p]) := by
  unfold ShsAt
  rw [List.map_append]
  exact Tw.Ats.snoc x (lst_w.mpr ⟨p, rfl, e, rfl⟩)
structure PartsAt (H : Hp) (p : Addr) (k : Pk) : Prop where
  ex : ∃ pt ps py us ws f1 f2, H p = some (.lst [.ref pt, .ref ps, .ref py, .int (k.say : Nat)]) ∧ H pt = some (.lst (natsV k.told)) ∧ H ps = some (.lst us) ∧ Tw.Ats H (k.shs.map fun h => lstW (shL h)) us f1 ∧ H py = some (.lst ws) ∧ Tw.Ats H (k.sys.map lstW) ws f2
theorem PartsAt.same {H H' : Hp} {p : Addr} {k : Pk} (h : PartsAt H p k) (s : Same H H') : PartsAt H' p k := by
  obtain ⟨pt, ps, py, us, ws, f1, f2, h1, h2, h3, h4, h5, h6⟩ := h.ex
  exact ⟨pt, ps, py, us, ws, f1, f2, s _ _ h1, s _ _ h2, s _ _ h3, h4.same s, s _ _ h5, h6.same s⟩
def sp_parts (K : PySem.W.Frag) : Sp := fun vs H Q _ => ∃ (a : Addr) (ns : List Int) (z : Int) (E T : Nat), vs = [.ref a, .int z, .int (E : Nat), .int (T : Nat)] ∧ SqL K H a (ns.map V.int) ∧ 0 ≤ z ∧ z ≤ 1 ∧ E ≤ 100 ∧ 0 < T ∧ T ≤ 100 ∧ ∀ p k H', Same H H' → PartsAt H' p k → PkOk k T → Q (.ref p) H'
theorem ok_law_parts (T : Txt K mg t) : FnOk P w K mg base CX0 3 t.a__law_parts t.fd__law_parts ["script", "mixed", "events", "texts"] (sp_parts K) := by
  have G__law_cell := ok_law_cell (P := P) (w := w) (base := base) T
  have G__law_shape := ok_law_shape (P := P) (w := w) (base := base) T
  have G__law_take := ok_law_take (P := P) (w := w) (base := base) T
  refine T.F__law_parts.ok sc_law_parts (fun vs H Q E h => ?_) (fun cdv A outer s H vs Q E hr h => ?_)
  · obtain ⟨a, ns, z, E, T, rfl, _⟩ := h
    rfl
  · obtain ⟨a, ns, z, En, Tn, rfl, hS, hz0, hz1, hE, hT, hT2, q⟩ := h
    refine ⟨_, (@pss_cons _ _ _ _ _ (@ps_set _ _ 4 _ _ _ _ sc_law_parts.nd rfl (by first | exact Or.inl rfl | exact Or.inr rfl) (@pe_lstN _ _ _ _ (@pa_cons _ _ _ _ _ (@pe_call _ _ _ _ _ _ _ _ _ _ _ _ _ _ _ _ G__law_cell (hr.mono (by omega)) rfl T.m__law_cell T.F__law_cell.kp T.b__law_cell .nil pass0 (@pa_cons _ _ _ _ _ (pv 0) (@pa_cons _ _ _ _ _ (@pe_int _ _ _ _) (@pa_cons _ _ _ _ _ (pv 1) (@pa_nil _) (by rfl)) (by rfl)) (by rfl)) (by decide) (by rfl) (by rfl)) (@pa_cons _ _ _ _ _ (pv 1) (@pa_nil _) (by rfl)) (by rfl))) (by rfl) (by first | exact Or.inl rfl | exact Or.inr rfl))
      (@pss_cons _ _ _ _ _ (@ps_set _ _ 5 _ _ _ _ sc_law_parts.nd rfl (by first | exact Or.inl rfl | exact Or.inr rfl) (@pe_op _ _ _ _ _ _ _ _ op_plus (@pe_int _ _ _ _) (@pe_call _ _ _ _ _ _ _ _ _ _ _ _ _ _ _ _ G__law_take (hr.mono (by omega)) rfl T.m__law_take T.F__law_take.kp T.b__law_take .nil pass0 (@pa_cons _ _ _ _ _ (pv 4) (@pa_cons _ _ _ _ _ (@pe_int _ _ _ _) (@pa_nil _) (by rfl)) (by rfl)) (by decide) (by rfl) (by rfl))) (by rfl) (by first | exact Or.inl rfl | exact Or.inr rfl))
      (@pss_cons _ _ _ _ _ (@ps_set _ _ 6 _ _ _ _ sc_law_parts.nd rfl (by first | exact Or.inl rfl | exact Or.inr rfl) (@pe_op _ _ _ _ _ _ _ _ op_plus (@pe_int _ _ _ _) (@pe_call _ _ _ _ _ _ _ _ _ _ _ _ _ _ _ _ G__law_take (hr.mono (by omega)) rfl T.m__law_take T.F__law_take.kp T.b__law_take .nil pass0 (@pa_cons _ _ _ _ _ (pv 4) (@pa_cons _ _ _ _ _ (@pe_int _ _ _ _) (@pa_nil _) (by rfl)) (by rfl)) (by decide) (by rfl) (by rfl))) (by rfl) (by first | exact Or.inl rfl | exact Or.inr rfl))
      (@pss_cons _ _ _ _ _ (@ps_set _ _ 7 _ _ _ _ sc_law_parts.nd rfl (by first | exact Or.inl rfl | exact Or.inr rfl) (@pe_op _ _ _ _ _ _ _ _ op_plus (pe_lc (Nt := ["said"]) (Nf := ["first", "texts"]) (caps := [4, 3]) rfl (comp_ok (sc := defScope s_law_parts) rfl rfl (by decide +kernel) (by decide +kernel) (by decide +kernel) rfl (by decide +kernel)) (pi_range1 rfl T.z_range (@pa_cons _ _ _ _ _ (pv 6) (@pa_nil _) (by rfl))) (fun _ _ _ _ _ => (pg_name (i := 0) (show (["said", "first", "texts"] : List Str).Nodup by decide +kernel) rfl (by first | exact Or.inl rfl | exact Or.inr rfl))) (fun _ _ _ _ _ => (@pts_nil _)) (fun _ _ _ _ _ => (pe_lc (Nt := ["k"]) (Nf := ["first", "texts"]) (caps := [1, 2]) rfl (comp_ok (cxC_scope (sc0 := defScope s_law_parts) rfl) rfl (by decide +kernel) (by decide +kernel) (by decide +kernel) rfl (by decide +kernel)) (pi_range1 rfl T.z_range (@pa_cons _ _ _ _ _ (@pe_call _ _ _ _ _ _ _ _ _ _ _ _ _ _ _ _ G__law_take (hr.mono (by omega)) rfl T.m__law_take T.F__law_take.kp T.b__law_take .nil pass0 (@pa_cons _ _ _ _ _ (pv 1) (@pa_cons _ _ _ _ _ (@pe_int _ _ _ _) (@pa_nil _) (by rfl)) (by rfl)) (by decide) (by rfl) (by rfl)) (@pa_nil _) (by rfl))) (fun _ _ _ _ _ => (pg_name (i := 0) (show (["k", "first", "texts"] : List Str).Nodup by decide +kernel) rfl (by first | exact Or.inl rfl | exact Or.inr rfl))) (fun _ _ _ _ _ => (@pts_nil _)) (fun _ _ _ _ _ => (@pe_call _ _ _ _ _ _ _ _ _ _ _ _ _ _ _ _ G__law_take (hr.mono (by omega)) rfl T.m__law_take T.F__law_take.kp T.b__law_take .nil pass0 (@pa_cons _ _ _ _ _ (pv 1) (@pa_cons _ _ _ _ _ (pv 2) (@pa_nil _) (by rfl)) (by rfl)) (by decide) (by rfl) (by rfl)))))) (@pe_lstN _ _ _ _ (@pa_cons _ _ _ _ _ (@pe_lstN _ _ _ _ (@pa_nil _)) (@pa_nil _) (by rfl)))) (by rfl) (by first | exact Or.inl rfl | exact Or.inr rfl))
      (@pss_cons _ _ _ _ _ (@ps_set _ _ 8 _ _ _ _ sc_law_parts.nd rfl (by first | exact Or.inl rfl | exact Or.inr rfl) (@pe_lstN _ _ _ _ (@pa_nil _)) (by rfl) (by first | exact Or.inl rfl | exact Or.inr rfl))
      (@pss_cons _ _ _ _ _ (@ps_for _ _ _ _ _ _ _ _ PassesOwn.never rfl (pi_range1 rfl T.z_range (@pa_cons _ _ _ _ _ (@pe_op _ _ _ _ _ _ _ _ op_plus (@pe_int _ _ _ _) (@pe_call _ _ _ _ _ _ _ _ _ _ _ _ _ _ _ _ G__law_take (hr.mono (by omega)) rfl T.m__law_take T.F__law_take.kp T.b__law_take .nil pass0 (@pa_cons _ _ _ _ _ (pv 4) (@pa_cons _ _ _ _ _ (@pe_int _ _ _ _) (@pa_nil _) (by rfl)) (by rfl)) (by decide) (by rfl) (by rfl))) (@pa_nil _) (by rfl))) (pg_name (i := 9) sc_law_parts.nd rfl (by first | exact Or.inl rfl | exact Or.inr rfl)) (@pss_one _ _ _ (@ps_expr _ _ _ _ (@kpe_bm _ K _ _ _ _ _ _ _ _ _ _ _ PySem.F.plainAttrs_list PySem.F.slot_list_append PySem.F.type_list_append mt_append (pv 8) (@pa_cons _ _ _ _ _ (@pe_call _ _ _ _ _ _ _ _ _ _ _ _ _ _ _ _ G__law_shape (hr.mono (by omega)) rfl T.m__law_shape T.F__law_shape.kp T.b__law_shape .nil pass0 (@pa_cons _ _ _ _ _ (@pe_lstN _ _ _ _ (@pa_cons _ _ _ _ _ (@pe_call _ _ _ _ _ _ _ _ _ _ _ _ _ _ _ _ G__law_cell (hr.mono (by omega)) rfl T.m__law_cell T.F__law_cell.kp T.b__law_cell .nil pass0 (@pa_cons _ _ _ _ _ (pv 0) (@pa_cons _ _ _ _ _ (@pe_op _ _ _ _ _ _ _ _ op_plus (@pe_int _ _ _ _) (pv 9)) (@pa_cons _ _ _ _ _ (pv 1) (@pa_nil _) (by rfl)) (by rfl)) (by rfl)) (by decide) (by rfl) (by rfl)) (@pa_cons _ _ _ _ _ (pv 1) (@pa_nil _) (by rfl)) (by rfl))) (@pa_cons _ _ _ _ _ (pv 2) (@pa_cons _ _ _ _ _ (@pe_op _ _ _ _ _ _ _ _ op_plus (pv 6) (@pe_int _ _ _ _)) (@pa_cons _ _ _ _ _ (pv 5) (@pa_nil _) (by rfl)) (by rfl)) (by rfl)) (by rfl)) (by decide) (by rfl) (by rfl)) (@pa_nil _) (by rfl)) (by rfl) (by rfl) (by rfl) (by rfl) (by rfl) (by rfl)) (by rfl))) (by intro _; rfl))
      (@pss_cons _ _ _ _ _ (@ps_set _ _ 10 _ _ _ _ sc_law_parts.nd rfl (by first | exact Or.inl rfl | exact Or.inr rfl) (@pe_lstN _ _ _ _ (@pa_nil _)) (by rfl) (by first | exact Or.inl rfl | exact Or.inr rfl))
      (@pss_cons _ _ _ _ _ (@ps_for _ _ _ _ _ _ _ _ PassesOwn.never rfl (pi_range1 rfl T.z_range (@pa_cons _ _ _ _ _ (pv 5) (@pa_nil _) (by rfl))) (pg_name (i := 9) sc_law_parts.nd rfl (by first | exact Or.inl rfl | exact Or.inr rfl)) (@pss_cons _ _ _ _ _ (@ps_set _ _ 11 _ _ _ _ sc_law_parts.nd rfl (by first | exact Or.inl rfl | exact Or.inr rfl) (@pe_lstN _ _ _ _ (@pa_cons _ _ _ _ _ (@pe_call _ _ _ _ _ _ _ _ _ _ _ _ _ _ _ _ G__law_cell (hr.mono (by omega)) rfl T.m__law_cell T.F__law_cell.kp T.b__law_cell .nil pass0 (@pa_cons _ _ _ _ _ (pv 0) (@pa_cons _ _ _ _ _ (@pe_op _ _ _ _ _ _ _ _ op_plus (@pe_int _ _ _ _) (pv 9)) (@pa_cons _ _ _ _ _ (pv 1) (@pa_nil _) (by rfl)) (by rfl)) (by rfl)) (by decide) (by rfl) (by rfl)) (@pa_cons _ _ _ _ _ (pv 1) (@pa_nil _) (by rfl)) (by rfl))) (by rfl) (by first | exact Or.inl rfl | exact Or.inr rfl))
        (@pss_one _ _ _ (@ps_if _ _ _ _ _ _ _ _ (@pt_cmpR _ _ _ _ _ _ _ _ op_eq (@pe_call _ _ _ _ _ _ _ _ _ _ _ _ _ _ _ _ G__law_take (hr.mono (by omega)) rfl T.m__law_take T.F__law_take.kp T.b__law_take .nil pass0 (@pa_cons _ _ _ _ _ (pv 11) (@pa_cons _ _ _ _ _ (@pe_int _ _ _ _) (@pa_nil _) (by rfl)) (by rfl)) (by decide) (by rfl) (by rfl)) (@pe_int _ _ _ _) (nomark _)) (@pss_cons _ _ _ _ _ (@ps_expr _ _ _ _ (@kpe_bm _ K _ _ _ _ _ _ _ _ _ _ _ PySem.F.plainAttrs_list PySem.F.slot_list_append PySem.F.type_list_append mt_append (pv 10) (@pa_cons _ _ _ _ _ (@pe_op _ _ _ _ _ _ _ _ op_plus (@pe_op _ _ _ _ _ _ _ _ op_times (@pe_int _ _ _ _) (@pe_callB _ _ _ _ _ _ _ _ _ (kcl_len K) (by rfl) T.z_len bb_len (@pa_cons _ _ _ _ _ (pv 8) (@pa_nil _) (by rfl)) (by decide) (by decide) (by rfl) (by rfl))) (@pe_int _ _ _ _)) (@pa_nil _) (by rfl)) (by rfl) (by rfl) (by rfl) (by rfl) (by rfl) (by rfl)) (by rfl))
          (@pss_one _ _ _ (@ps_expr _ _ _ _ (@kpe_bm _ K _ _ _ _ _ _ _ _ _ _ _ PySem.F.plainAttrs_list PySem.F.slot_list_append PySem.F.type_list_append mt_append (pv 8) (@pa_cons _ _ _ _ _ (@pe_op _ _ _ _ _ _ _ _ op_plus (@pe_lstN _ _ _ _ (@pa_cons _ _ _ _ _ (pv 6) (@pa_cons _ _ _ _ _ (pv 9) (@pa_nil _) (by rfl)) (by rfl))) (@pe_op _ _ _ _ _ _ _ _ kop_repN (@pe_lstN _ _ _ _ (@pa_cons _ _ _ _ _ (@pe_int _ _ _ _) (@pa_cons _ _ _ _ _ (pv 6) (@pa_cons _ _ _ _ _ (pv 9) (@pa_nil _) (by rfl)) (by rfl)) (by rfl))) (@pe_call _ _ _ _ _ _ _ _ _ _ _ _ _ _ _ _ G__law_take (hr.mono (by omega)) rfl T.m__law_take T.F__law_take.kp T.b__law_take .nil pass0 (@pa_cons _ _ _ _ _ (pv 11) (@pa_cons _ _ _ _ _ (@pe_int _ _ _ _) (@pa_nil _) (by rfl)) (by rfl)) (by decide) (by rfl) (by rfl)))) (@pa_nil _) (by rfl)) (by rfl) (by rfl) (by rfl) (by rfl) (by rfl) (by rfl)) (by rfl)))) (@pss_one _ _ _ (@ps_expr _ _ _ _ (@kpe_bm _ K _ _ _ _ _ _ _ _ _ _ _ PySem.F.plainAttrs_list PySem.F.slot_list_append PySem.F.type_list_append mt_append (pv 10) (@pa_cons _ _ _ _ _ (@pe_op _ _ _ _ _ _ _ _ op_times (@pe_int _ _ _ _) (@pe_call _ _ _ _ _ _ _ _ _ _ _ _ _ _ _ _ G__law_take (hr.mono (by omega)) rfl T.m__law_take T.F__law_take.kp T.b__law_take .nil pass0 (@pa_cons _ _ _ _ _ (pv 11) (@pa_cons _ _ _ _ _ (@pe_callB _ _ _ _ _ _ _ _ _ (kcl_len K) (by rfl) T.z_len bb_len (@pa_cons _ _ _ _ _ (pv 8) (@pa_nil _) (by rfl)) (by decide) (by decide) (by rfl) (by rfl)) (@pa_nil _) (by rfl)) (by rfl)) (by decide) (by rfl) (by rfl))) (@pa_nil _) (by rfl)) (by rfl) (by rfl) (by rfl) (by rfl) (by rfl) (by rfl)) (by rfl)))))) (by intro _; rfl))
      (@pss_one _ _ _ (@ps_ret _ _ _ _ (@pe_lstN _ _ _ _ (@pa_cons _ _ _ _ _ (pv 10) (@pa_cons _ _ _ _ _ (pv 8) (@pa_cons _ _ _ _ _ (pv 7) (@pa_cons _ _ _ _ _ (@pe_call _ _ _ _ _ _ _ _ _ _ _ _ _ _ _ _ G__law_take (hr.mono (by omega)) rfl T.m__law_take T.F__law_take.kp T.b__law_take .nil pass0 (@pa_cons _ _ _ _ _ (pv 4) (@pa_cons _ _ _ _ _ (@pe_op _ _ _ _ _ _ _ _ op_plus (pv 6) (@pe_int _ _ _ _)) (@pa_nil _) (by rfl)) (by rfl)) (by decide) (by rfl) (by rfl)) (@pa_nil _) (by rfl)) (by rfl)) (by rfl)) (by rfl))))))))))))), ?_⟩
    have sl : (1000000 : Nat) ≤ sizeLine := le_line (Nat.le_refl _)
    walk_at "go"
    refine ⟨a, ns, 1, z, rfl, hS, by decide, hz0, hz1, fun zc H1 s1 => ?_⟩
    walk_at "run"
    intro pf H2 f2 s2 e2
    walk_at "run"
    have k2 : StA H2 pf z := ⟨zc, e2⟩
    have s02 := s1.trans s2
    have fpf : H pf = none := s1.free f2
    refine ⟨pf, z, 6, rfl, k2, by decide, by decide, fun r6 H3 hr6 o3 k3 => ?_⟩
    walk_at "run"
    refine ⟨pf, z, 4, rfl, k3, by decide, by decide, fun r4 H4 hr4 o4 k4 => ?_⟩
    walk_at "run"
    have s04 : Same H H4 := (o3.trans o4).new s02 fpf
    rw [show (1 : Int) + (r4 : Nat) = ((1 + r4 : Nat) : Int) by omega, show (1 : Int) + (r6 : Nat) = ((1 + r6 : Nat) : Int) by omega, Int.toNat_natCast]
    have hR1 : 0 < 1 + r6 := by omega
    have hR2 : 1 + r6 ≤ 6 := by omega
    have hS1 : 0 < 1 + r4 := by omega
    have hS2 : 1 + r4 ≤ 4 := by omega
    generalize 1 + r6 = R at hR1 hR2
    generalize 1 + r4 = S at hS1 hS2
    refine cc_range (n := S) (le_line (by omega)) (fun i acc H' => i ≤ S ∧ acc.length = i ∧ Same H H' ∧ StA H' pf z ∧ ∃ (sys : List (List Nat)) (fs : List Addr), sys.length = i ∧ Tw.Ats H' (sys.map lstW) acc fs ∧ pf ∉ fs ∧ ∀ l ∈ sys, l.length ≤ 100 ∧ ∀ n ∈ l, n < Tn) ⟨Nat.zero_le _, rfl, s04, k4, [], [], rfl, by simp [Tw.Ats], by simp, by simp⟩ (fun i acc H' ⟨_, e, _⟩ => by omega) ?_ ?_
    · rintro i acc H5 hi ⟨hil, ea, s5, k5, sys, fs, hsl, hat, hpf, hok⟩
      walk_at "run"
      refine ⟨pf, z, 4, rfl, k5, by decide, by decide, fun r H6 hr o6 k6 => ?_⟩
      walk_at "run"
      rw [Int.toNat_natCast]
      have hat6 := hat.mono (o6.keep k5 hpf)
      refine cc_range (n := r) (le_line (by omega)) (fun j acc2 H' => Oth pf H6 H' ∧ StA H' pf z ∧ ∃ l : List Nat, acc2 = natsV l ∧ l.length = j ∧ ∀ n ∈ l, n < Tn) ⟨Oth.refl, k6, [], rfl, rfl, by simp⟩ (fun j acc2 H' ⟨_, _, l, e, e2, _⟩ => by rw [e, natsV_len, e2]; exact Nat.le_refl _) ?_ ?_
      · rintro j acc2 H7 hj ⟨o7, k7, l, rfl, hll, hln⟩
        walk_at "run"
        refine ⟨pf, z, Tn, rfl, k7, hT, by omega, fun r7 H8 hr7 o8 k8 => ?_⟩
        refine ⟨o7.trans o8, k8, l ++ [r7], natsV_snoc _ _, by simp [hll], fun n hn => ?_⟩
        rcases List.mem_append.mp hn with hn | hn
        · exact hln n hn
        · rw [List.mem_singleton.mp hn]; exact hr7
      · rintro acc2 H7 ⟨o7, k7, l, rfl, hll, hln⟩ p8 H8 f8 s8 e8
        have hat8 := (hat6.mono (o7.keep k6 hpf)).same s8
        refine ⟨hi, by simp [ea], ((o6.trans o7).new s5 fpf).trans s8, k7.same s8, sys ++ [l], fs ++ [p8], by simp [hsl], ?_, fun hm => ?_, fun x hx => ?_⟩
        · rw [List.map_append]
          exact hat8.snoc (lst_w.mpr ⟨p8, rfl, e8, rfl⟩)
        · rcases List.mem_append.mp hm with hm | hm
          · exact hpf hm
          · exact k7.ne f8 (List.mem_singleton.mp hm).symm
        · rcases List.mem_append.mp hx with hx | hx
          · exact hok x hx
          · rw [List.mem_singleton.mp hx]; exact ⟨by omega, hln⟩
    rintro acc H5 ⟨_, ea, s5, k5, sys, fs, hsl, hat, hpf, hok⟩ p6 H6 f6 s6 e6
    walk_at "run"
    intro p7 H7 f7 s7 e7
    walk_at "run"
    intro p8 H8 f8 s8 e8
    walk_at "run"
    have s68 := s7.trans s8
    refine i_plusL (s68 _ _ e6) e8 (by rw [ea]; simp only [List.length_cons, List.length_nil]; omega) ?_
    intro py H9 f9 s9 e9
    walk_at "run"
    have s59 := s6.trans (s68.trans s9)
    have hY : Tw.Ats H9 ((sys ++ [[]]).map lstW) (acc ++ [.ref p7]) (fs ++ [p7]) := by
      rw [List.map_append]
      exact (hat.same s59).snoc (lst_w.mpr ⟨p7, rfl, (s8.trans s9) _ _ e7, rfl⟩)
    have hYf : pf ∉ fs ++ [p7] := fun hm => by
      rcases List.mem_append.mp hm with hm | hm
      · exact hpf hm
      · exact (k5.same s6).ne f7 (List.mem_singleton.mp hm).symm
    have hYok : ∀ l ∈ sys ++ [[]], l.length ≤ 100 ∧ ∀ n ∈ l, n < Tn := fun l hl => by
      rcases List.mem_append.mp hl with hl | hl
      · exact hok l hl
      · rw [List.mem_singleton.mp hl]; simp
    have hYl : (sys ++ [[]]).length = S + 1 := by simp [hsl]
    generalize acc ++ [.ref p7] = ws at e9 hY
    generalize fs ++ [p7] = f2' at hY hYf
    generalize sys ++ [[]] = sy2 at hY hYok hYl
    have k9 := k5.same s59
    have s09 := s5.trans s59
    have npy : py ≠ pf := ((k5.same s6).same s68).ne f9
    intro ps H10 f10 s10 e10
    walk_at "run"
    refine ⟨pf, z, 5, rfl, k9.same s10, by decide, by decide, fun r5 H11 hr5 o11 k11 => ?_⟩
    walk_at "run"
    rw [show (1 : Int) + (r5 : Nat) = ((1 + r5 : Nat) : Int) by omega, Int.toNat_natCast]
    have hps : ps ≠ pf := k9.ne f10
    have R11 : Rel pf z H9 H11 := ⟨(oth_same s10).trans o11, k11⟩
    refine for_range (lo := 0) (n := 1 + r5) (fun i σ H' => i ≤ 1 + r5 ∧ Rel pf z H9 H' ∧ (∃ (shs : List Sh) (acc : List V) (fs : List Addr), H' ps = some (.lst acc) ∧ shs.length = i ∧ ShsAt H' shs acc fs ∧ pf ∉ fs ∧ ps ∉ fs ∧ ∀ h ∈ shs, ShOk (S + 1) R h) ∧ ∃ y, σ = [some (.ref a), some (.int z), some (.int (En : Nat)), some (.int (Tn : Nat)), some (.ref pf), some (.int (R : Nat)), some (.int (S : Nat)), some (.ref py), some (.ref ps), y, none, none]) ⟨Nat.zero_le _, R11, ⟨[], [], [], o11 _ _ hps e10, rfl, by simp [ShsAt, Tw.Ats], by simp, by simp, by simp⟩, _, rfl⟩ ?_ ?_
    · rintro i σ H12 hi ⟨hil, R12, ⟨shs, acc, fs, h1, h2, h3, h4, h5, h6⟩, y, rfl⟩
      rw [Int.zero_add]
      have al : acc.length = i := by rw [h3.len, List.length_map, h2]
      have s012 : Same H H12 := R12.1.new s09 fpf
      walk_at "run"
      refine i_tyL (SqL.of h1) ?_
      walk_at "run"
      rw [show (2 : Int) + (i : Nat) = ((2 + i : Nat) : Int) by omega]
      refine ⟨a, ns, 2 + i, z, rfl, s012.seq hS, by omega, hz0, hz1, fun zc H13 s13 => ?_⟩
      walk_at "run"
      intro st H14 f14 s14 e14
      walk_at "run"
      rw [show ((S : Nat) : Int) + 1 = ((S + 1 : Nat) : Int) by omega]
      refine ⟨st, z, En, S + 1, R, rfl, ⟨zc, e14⟩, hE, by omega, by omega, hR1, by omega, fun p h H15 f15 e15 hh o15 => ?_⟩
      walk_at "run"
      have s15 : Same H12 H15 := o15.new (s13.trans s14) (s13.free f14)
      have h15 := s15 _ _ h1
      have fp12 : H12 p = none := (s13.trans s14).free f15
      refine i_append h15 (by omega) ?_
      have hpp : p ≠ ps := (ne_of_none h1 fp12).symm
      have hn : ps ∉ fs ++ [p] := fun hm => (List.mem_append.mp hm).elim h5 fun hm => hpp (List.mem_singleton.mp hm).symm
      refine ⟨hi, (R12.same s15).upd f10, ⟨shs ++ [h], acc ++ [.ref p], fs ++ [p], upd_same, by simp [h2], ?_, fun hm => ?_, hn, fun x hx => ?_⟩, _, rfl⟩
      · exact ((h3.same s15).snoc e15).mono (Keep.upd h15 hn)
      · rcases List.mem_append.mp hm with hm | hm
        · exact h4 hm
        · exact R12.2.ne fp12 (List.mem_singleton.mp hm).symm
      · rcases List.mem_append.mp hx with hx | hx
        · exact h6 x hx
        · rw [List.mem_singleton.mp hx]; exact hh
    rintro σ H12 ⟨_, R12, ⟨shs, acc, fs, h1, h2, h3, h4, h5, h6⟩, y, rfl⟩
    walk_at "run"
    intro pt H13 f13 s13 e13
    walk_at "run"
    have hpt : pt ≠ pf := R12.2.ne f13
    have hpts : pt ≠ ps := (ne_of_none h1 f13).symm
    have fpt9 : H9 pt = none := R12.1.free R12.2 f13
    rw [Int.toNat_natCast]
    refine for_range (lo := 0) (n := R) (fun i σ H' => i ≤ R ∧ Rel pf z H9 H' ∧ (∃ (told : List Nat) (shs : List Sh) (acc : List V) (fs : List Addr), H' pt = some (.lst (natsV told)) ∧ told.length = i ∧ H' ps = some (.lst acc) ∧ 0 < shs.length ∧ shs.length ≤ 5 + i ∧ ShsAt H' shs acc fs ∧ pf ∉ fs ∧ ps ∉ fs ∧ pt ∉ fs ∧ (∀ t ∈ told, t / 2 < shs.length) ∧ ∀ h ∈ shs, ShOk (S + 1) R h) ∧ ∃ y w, σ = [some (.ref a), some (.int z), some (.int (En : Nat)), some (.int (Tn : Nat)), some (.ref pf), some (.int (R : Nat)), some (.int (S : Nat)), some (.ref py), some (.ref ps), y, some (.ref pt), w]) ⟨Nat.zero_le _, R12.same s13, ⟨[], shs, acc, fs, e13, rfl, s13 _ _ h1, by omega, by omega, h3.same s13, h4, h5, tws_new h3 f13, by simp, h6⟩, _, _, rfl⟩ ?_ ?_
    · clear h1 h2 h3 h4 h5 h6 acc fs shs
      rintro i σ H14 hi ⟨hil, R14, ⟨told, shs, acc, fs, h1, h2, h3, h4, h5, h6, h7, h8, h9, h10, h11⟩, y, w', rfl⟩
      rw [Int.zero_add]
      have al : acc.length = shs.length := by rw [h6.len, List.length_map]
      have s014 : Same H H14 := R14.1.new s09 fpf
      walk_at "run"
      rw [show (8 : Int) + (i : Nat) = ((8 + i : Nat) : Int) by omega]
      refine ⟨a, ns, 8 + i, z, rfl, s014.seq hS, by omega, hz0, hz1, fun zc H15 s15 => ?_⟩
      walk_at "run"
      intro st H16 f16 s16 e16
      walk_at "run"
      have s416 := s15.trans s16
      have fst : H14 st = none := s15.free f16
      refine ⟨st, z, 5, rfl, ⟨zc, e16⟩, by decide, by decide, fun rr H17 hrr o17 k17 => ?_⟩
      walk_at "run"
      have s417 : Same H14 H17 := o17.new s416 fst
      refine ite2 (fun hc => ?_) (fun hc => ?_)
      · walk_at "run"
        refine i_tyL (SqL.of (s417 _ _ h1)) ?_
        walk_at "run"
        refine i_lenL (SqL.of (s417 _ _ h3)) ?_
        walk_at "run"
        rw [al, show (2 : Int) * (shs.length : Nat) + 1 = ((2 * shs.length + 1 : Nat) : Int) by omega]
        refine i_append (s417 _ _ h1) (by rw [natsV_len]; omega) ?_
        rw [natsV_snoc]
        walk_at "run"
        have q1 : upd H17 pt (.lst (natsV (told ++ [2 * shs.length + 1]))) pt = some (.lst (natsV (told ++ [2 * shs.length + 1]))) := upd_same
        have q2 : upd H17 pt (.lst (natsV (told ++ [2 * shs.length + 1]))) ps = some (.lst acc) := by rw [upd_ne (Ne.symm hpts)]; exact s417 _ _ h3
        have q3 : ShsAt (upd H17 pt (.lst (natsV (told ++ [2 * shs.length + 1])))) shs acc fs := (h6.same s417).mono (Keep.upd (s417 _ _ h1) h9)
        have q4 : Rel pf z H9 (upd H17 pt (.lst (natsV (told ++ [2 * shs.length + 1])))) := (R14.same s417).upd fpt9
        have q5 : StA (upd H17 pt (.lst (natsV (told ++ [2 * shs.length + 1])))) st z := by
          obtain ⟨x, ex⟩ := k17
          exact ⟨x, by rw [upd_ne (ne_of_none h1 fst).symm]; exact ex⟩
        have q6 : ∀ x, upd H17 pt (.lst (natsV (told ++ [2 * shs.length + 1]))) x = none → H14 x = none := fun x hx => by
          refine s417.free ?_
          rw [upd_ne (fun z => by rw [z, q1] at hx; cases hx)] at hx
          exact hx
        generalize upd H17 pt (.lst (natsV (told ++ [2 * shs.length + 1]))) = H18 at q1 q2 q3 q4 q5 q6
        refine i_tyL (SqL.of q2) ?_
        walk_at "run"
        intro p1 H19 f19 s19 e19
        walk_at "run"
        intro p2 H20 f20 s20 e20
        walk_at "run"
        have s820 := s19.trans s20
        refine ⟨st, z, 2, rfl, q5.same s820, by decide, by decide, fun r2 H21 hr2 o21 k21 => ?_⟩
        have nst1 : p1 ≠ st := q5.ne f19
        have nst2 : p2 ≠ st := (q5.same s19).ne f20
        refine ⟨p2, (r2 : Int), [.int 0, .int (S : Nat), .int (i : Nat)], rfl, rfl, o21 _ _ nst2 e20, by omega, by omega, by simp only [List.length_cons, List.length_nil, Int.toNat_natCast]; omega, ?_⟩
        rw [Int.toNat_natCast]
        intro p3 H22 f22 s22 e22
        walk_at "run"
        have e1' : H22 p1 = some (.lst [.int (S : Nat), .int (i : Nat)]) := s22 _ _ (o21 _ _ nst1 (s20 _ _ e19))
        refine i_plusL e1' e22 (by
          have hf : ((List.replicate r2 [V.int 0, V.int (S : Nat), V.int (i : Nat)]).flatten).length = r2 * 3 := by simp
          rw [hf]
          simp only [List.length_cons, List.length_nil]
          omega) ?_
        intro p4 H23 f23 s23 e23
        walk_at "run"
        have hsh : ∃ h : Sh, H23 p4 = some (.lst (natsV (shL h))) ∧ ShOk (S + 1) R h := by
          have : r2 = 0 ∨ r2 = 1 := by omega
          rcases this with rfl | rfl
          · exact ⟨((S, i), []), e23, by simp only [ShOk]; exact ⟨by omega, hi, by simp, by simp, by simp⟩⟩
          · refine ⟨((S, i), [(0, S, i)]), e23, by simp only [ShOk]; exact ⟨by omega, hi, by simp; omega, by simp, by simp⟩⟩
        obtain ⟨h, hh1, hh2⟩ := hsh
        have nstH : H14 st = none := fst
        have kO : ∀ x o, x ≠ st → H18 x = some o → H23 x = some o := fun x o hx e => s23 _ _ (s22 _ _ (o21 _ _ hx (s820 _ _ e)))
        have nps : ps ≠ st := ne_of_none h3 fst
        have npf : pf ≠ st := by
          obtain ⟨x, ex⟩ := R14.2
          exact ne_of_none ex fst
        have npt : pt ≠ st := ne_of_none h1 fst
        have nfs : st ∉ fs := tws_new h6 fst
        have q7 := kO _ _ nps q2
        refine i_append q7 (by omega) ?_
        have fp4 : H18 p4 = none := by
          cases e : H18 p4 with
          | none => rfl
          | some o =>
            have h23 : H22 p4 = none := f23
            by_cases hx : p4 = st
            · obtain ⟨x, ex⟩ := k21
              rw [hx, s22 _ _ ex] at h23
              cases h23
            · rw [s22 _ _ (o21 _ _ hx (s820 _ _ e))] at h23
              cases h23
        have np4s : p4 ≠ ps := (ne_of_none q2 fp4).symm
        have np4t : p4 ≠ pt := (ne_of_none q1 fp4).symm
        have np4f : p4 ≠ pf := q4.2.ne fp4
        have hn : ps ∉ fs ++ [p4] := fun hm => (List.mem_append.mp hm).elim h8 fun hm => np4s (List.mem_singleton.mp hm).symm
        have q8 : ShsAt H23 shs acc fs := q3.mono ⟨fun b ys e => kO b _ (ne_of e q5.choose_spec (fun z => nomatch z)) e, fun x hx xs e => kO x _ (fun hz => nfs (hz ▸ hx)) e⟩
        have q9 : Rel pf z H9 H23 := by
          refine ⟨fun x o hx e => kO x o (fun hz => ?_) (q4.1 x o hx e), ?_⟩
          · have := R14.1 x o hx e
            rw [hz, fst] at this
            cases this
          · obtain ⟨x, ex⟩ := q4.2
            exact ⟨x, kO _ _ npf ex⟩
        refine ⟨hi, q9.upd f10, ⟨told ++ [2 * shs.length + 1], shs ++ [h], acc ++ [.ref p4], fs ++ [p4], by rw [upd_ne hpts]; exact kO _ _ npt q1, by simp [h2], upd_same, by simp, by simp; omega, (q8.snoc hh1).mono (Keep.upd q7 hn), fun hm => ?_, hn, fun hm => ?_, fun x hx => ?_, fun x hx => ?_⟩, _, _, rfl⟩
        · rcases List.mem_append.mp hm with hm | hm
          · exact h7 hm
          · exact np4f (List.mem_singleton.mp hm).symm
        · rcases List.mem_append.mp hm with hm | hm
          · exact h9 hm
          · exact np4t (List.mem_singleton.mp hm).symm
        · rcases List.mem_append.mp hx with hx | hx
          · have := h10 x hx; simp; omega
          · rw [List.mem_singleton.mp hx]; simp; omega
        · rcases List.mem_append.mp hx with hx | hx
          · exact h11 x hx
          · rw [List.mem_singleton.mp hx]; exact hh2
      · walk_at "run"
        refine i_tyL (SqL.of (s417 _ _ h1)) ?_
        walk_at "run"
        refine i_lenL (SqL.of (s417 _ _ h3)) ?_
        walk_at "run"
        rw [al]
        refine ⟨st, z, shs.length, rfl, k17, h4, by omega, fun r2 H18 hr2 o18 k18 => ?_⟩
        walk_at "run"
        have s418 : Same H14 H18 := o18.new s417 fst
        rw [show (2 : Int) * (r2 : Nat) = ((2 * r2 : Nat) : Int) by omega]
        refine i_append (s418 _ _ h1) (by rw [natsV_len]; omega) ?_
        rw [natsV_snoc]
        refine ⟨hi, (R14.same s418).upd fpt9, ⟨told ++ [2 * r2], shs, acc, fs, upd_same, by simp [h2], by rw [upd_ne (Ne.symm hpts)]; exact s418 _ _ h3, h4, by omega, (h6.same s418).mono (Keep.upd (s418 _ _ h1) h9), h7, h8, h9, fun x hx => ?_, h11⟩, _, _, rfl⟩
        rcases List.mem_append.mp hx with hx | hx
        · exact h10 x hx
        · rw [List.mem_singleton.mp hx]; omega
    · clear h1 h2 h3 h4 h5 h6 acc fs shs
      rintro σ H14 ⟨_, R14, ⟨told, shs, acc, fs, h1, h2, h3, h4, h5, h6, h7, h8, h9, h10, h11⟩, y, w', rfl⟩
      walk_at "run"
      rw [show ((S : Nat) : Int) + 1 = ((S + 1 : Nat) : Int) by omega]
      refine ⟨pf, z, S + 1, rfl, R14.2, by omega, by omega, fun rs H15 hrs o15 k15 => ?_⟩
      walk_at "run"
      intro pp H16 f16 s16 e16
      have o9 : Oth pf H9 H15 := R14.1.trans o15
      have s015 : Same H H15 := o9.new s09 fpf
      refine q pp ⟨told, shs, sy2, rs⟩ H16 (s015.trans s16) ⟨pt, ps, py, acc, _, fs, f2', e16, s16 _ _ (o15 _ _ hpt h1), s16 _ _ (o15 _ _ hps h3), (h6.mono (o15.keep R14.2 h7)).same s16, s16 _ _ (o9 _ _ npy e9), (hY.mono (o9.keep k9 hYf)).same s16⟩ ?_
      refine ⟨by simp only; omega, by simp only; omega, by simp only; omega, by simp only; omega, h10, fun h hh => ?_, hYok, by simp only; omega⟩
      obtain ⟨x1, x2, x3, x4, x5⟩ := h11 h hh
      simp only [h2, hYl]
      exact ⟨x1, x2, x3, x4, x5⟩
theorem tws_app {H : Hp} : ∀ {xs ys : List Tw} {us ws : List V} {f1 f2 : List Addr}, Tw.Ats H xs us f1 → Tw.Ats H ys ws f2 → Tw.Ats H (xs ++ ys) (us ++ ws) (f1 ++ f2)
  | [], ys, us, ws, f1, f2, h1, h2 => by
    simp only [Tw.Ats] at h1
    obtain ⟨rfl, rfl⟩ := h1
    exact h2
  | x :: xs, ys, us, ws, f1, f2, h1, h2 => by
    simp only [List.cons_append, Tw.Ats] at h1 ⊢
    obtain ⟨v, vs, f, g, rfl, rfl, a, b⟩ := h1
    exact ⟨v, vs ++ ws, f, g ++ f2, rfl, by simp, a, tws_app b h2⟩
theorem blocks_len {ls : List (List Nat)} (h : ∀ l ∈ ls, l.length ≤ 302) : (blocks ls).length ≤ ls.length * 303 := by
  induction ls with
  | nil => simp [blocks]
  | cons l ls ih =>
    have h1 := ih fun x hx => h x (by simp [hx])
    have h2 := h l (by simp)
    simp only [blocks, List.flatMap_cons, List.length_append, List.length_cons] at h1 ⊢
    omega
def Pk.ls (k : Pk) : List (List Nat) := k.shs.map shL ++ k.sys
theorem Pk.cells_ls (k : Pk) : k.cells = (k.told.length :: k.sys.length :: k.shs.length :: k.say :: k.told) ++ blocks k.ls := by simp [Pk.cells, Pk.ls, blocks]
theorem PkOk.ls {k : Pk} {T : Nat} (ok : PkOk k T) : (∀ l ∈ k.ls, l.length ≤ 302) ∧ k.ls.length ≤ 200 := by
  refine ⟨fun l hl => ?_, ?_⟩
  · rcases List.mem_append.mp hl with hl | hl
    · obtain ⟨h, hh, rfl⟩ := List.mem_map.mp hl
      have := (ok.sh h hh).2.2.2.2
      rw [shL_len]
      omega
    · have := (ok.sy l hl).1
      omega
  · have := ok.nsh
    have := ok.nsy
    simp only [Pk.ls, List.length_append, List.length_map]
    omega
def sp_cells (K : PySem.W.Frag) : Sp := fun vs H Q _ => ∃ (p : Addr) (k : Pk) (T : Nat), vs = [.ref p] ∧ PartsAt H p k ∧ PkOk k T ∧ ∀ pc H', H pc = none → Same H H' → H' pc = some (.lst (natsV k.cells)) → Q (.ref pc) H'
theorem ok_law_cells (T : Txt K mg t) : FnOk P w K mg base CX0 1 t.a__law_cells t.fd__law_cells ["parts"] (sp_cells K) := by
  refine T.F__law_cells.ok sc_law_cells (fun vs H Q E h => ?_) (fun cdv A outer s H vs Q E hr h => ?_)
  · obtain ⟨p, k, T, rfl, _⟩ := h
    rfl
  · obtain ⟨p, k, Tn, rfl, hP, ok, q⟩ := h
    refine ⟨_, (@pss_cons _ _ _ _ _ (@ps_asg _ _ _ _ _ _ (pv 0) (kpg_lst K (n := 4) rfl (pgs_cons (pg_name (i := 1) sc_law_cells.nd rfl (by first | exact Or.inl rfl | exact Or.inr rfl)) (pgs_cons (pg_name (i := 2) sc_law_cells.nd rfl (by first | exact Or.inl rfl | exact Or.inr rfl)) (pgs_cons (pg_name (i := 3) sc_law_cells.nd rfl (by first | exact Or.inl rfl | exact Or.inr rfl)) (pgs_cons (pg_name (i := 4) sc_law_cells.nd rfl (by first | exact Or.inl rfl | exact Or.inr rfl)) (@pgs_nil _)))))) (by rfl) (by rfl) (by rfl))
      (@pss_cons _ _ _ _ _ (@ps_set _ _ 5 _ _ _ _ sc_law_cells.nd rfl (by first | exact Or.inl rfl | exact Or.inr rfl) (@pe_op _ _ _ _ _ _ _ _ op_plus (@pe_lstN _ _ _ _ (@pa_cons _ _ _ _ _ (@pe_callB _ _ _ _ _ _ _ _ _ (kcl_len K) (by rfl) T.z_len bb_len (@pa_cons _ _ _ _ _ (pv 1) (@pa_nil _) (by rfl)) (by decide) (by decide) (by rfl) (by rfl)) (@pa_cons _ _ _ _ _ (@pe_callB _ _ _ _ _ _ _ _ _ (kcl_len K) (by rfl) T.z_len bb_len (@pa_cons _ _ _ _ _ (pv 3) (@pa_nil _) (by rfl)) (by decide) (by decide) (by rfl) (by rfl)) (@pa_cons _ _ _ _ _ (@pe_callB _ _ _ _ _ _ _ _ _ (kcl_len K) (by rfl) T.z_len bb_len (@pa_cons _ _ _ _ _ (pv 2) (@pa_nil _) (by rfl)) (by decide) (by decide) (by rfl) (by rfl)) (@pa_cons _ _ _ _ _ (pv 4) (@pa_nil _) (by rfl)) (by rfl)) (by rfl)) (by rfl))) (pv 1)) (by rfl) (by first | exact Or.inl rfl | exact Or.inr rfl))
      (@pss_cons _ _ _ _ _ (@ps_for _ _ _ _ _ _ _ _ PassesOwn.never rfl (kpi_list K (@pe_op _ _ _ _ _ _ _ _ op_plus (pv 2) (pv 3))) (pg_name (i := 6) sc_law_cells.nd rfl (by first | exact Or.inl rfl | exact Or.inr rfl)) (@pss_one _ _ _ (@ps_set _ _ 5 _ _ _ _ sc_law_cells.nd rfl (by first | exact Or.inl rfl | exact Or.inr rfl) (@pe_op _ _ _ _ _ _ _ _ op_plus (@pe_op _ _ _ _ _ _ _ _ op_plus (pv 5) (@pe_lstN _ _ _ _ (@pa_cons _ _ _ _ _ (@pe_callB _ _ _ _ _ _ _ _ _ (kcl_len K) (by rfl) T.z_len bb_len (@pa_cons _ _ _ _ _ (pv 6) (@pa_nil _) (by rfl)) (by decide) (by decide) (by rfl) (by rfl)) (@pa_nil _) (by rfl)))) (pv 6)) (by rfl) (by first | exact Or.inl rfl | exact Or.inr rfl))) (by intro _; rfl))
      (@pss_one _ _ _ (@ps_ret _ _ _ _ (pv 5)))))), ?_⟩
    have sl : (1000000 : Nat) ≤ sizeLine := le_line (Nat.le_refl _)
    obtain ⟨pt, ps, py, us, ws, f1, f2, h1, h2, h3, h4, h5, h6⟩ := hP.ex
    have l1 : us.length = k.shs.length := by rw [h4.len, List.length_map]
    have l2 : ws.length = k.sys.length := by rw [h6.len, List.length_map]
    have n1 := ok.nt
    have n2 := ok.nsh
    have n3 := ok.nsy
    obtain ⟨n4, n5⟩ := ok.ls
    walk_at "go"
    refine i_asgL (SqL.of h1) rfl ?_
    walk_at "run"
    refine i_lenL (SqL.of h2) ?_
    walk_at "run"
    refine i_lenL (SqL.of h5) ?_
    walk_at "run"
    refine i_lenL (SqL.of h3) ?_
    walk_at "run"
    intro p1 H1 g1 s1 e1
    walk_at "run"
    refine i_plusL e1 (s1 _ _ h2) (by rw [natsV_len]; simp only [List.length_cons, List.length_nil]; omega) ?_
    intro p2 H2 g2 s2 e2
    walk_at "run"
    have s02 := s1.trans s2
    refine i_plusL (s02 _ _ h3) (s02 _ _ h5) (by omega) ?_
    intro p3 H3 g3 s3 e3
    walk_at "run"
    have s03 := s02.trans s3
    have hall : Tw.Ats H3 (k.ls.map lstW) (us ++ ws) (f1 ++ f2) := by
      unfold Pk.ls
      rw [List.map_append, List.map_map]
      exact tws_app (h4.same s03) (h6.same s03)
    have ll : (us ++ ws).length = k.ls.length := by simp [Pk.ls, l1, l2]
    refine ⟨⟨_, SqL.of e3⟩, for_list (K := K) (a := p3) (xs := us ++ ws) (fun i σ H' => Same H3 H' ∧ i ≤ k.ls.length ∧ ∃ pc y, σ = [some (.ref p), some (.ref pt), some (.ref ps), some (.ref py), some (.int (k.say : Nat)), some (.ref pc), y] ∧ H pc = none ∧ H' pc = some (.lst (natsV ((k.told.length :: k.sys.length :: k.shs.length :: k.say :: k.told) ++ blocks (k.ls.take i))))) ⟨Same.refl _, Nat.zero_le _, p2, _, rfl, s1.free g2, ?_⟩ (fun i σ H' _ ⟨s', _⟩ => SqL.of (s' _ _ e3)) ?_ ?_⟩
    · rw [s3 _ _ e2]
      simp [natsV, blocks, l1, l2]
    · rintro i x σ H4 hx ⟨s4, hil, pc, y, rfl, fpc, hpc⟩
      obtain ⟨tx, fx, hx1, hx2, _⟩ := (hall.same s4).get i x hx
      rw [List.getElem?_map] at hx1
      obtain ⟨l, hl, rfl⟩ := Option.map_eq_some_iff.mp hx1
      obtain ⟨b, rfl, hb, _⟩ := lst_w.mp hx2
      have hi' : i < k.ls.length := (List.getElem?_eq_some_iff.mp hl).1
      have hll := n4 l (List.mem_of_getElem? hl)
      have hbl := blocks_len (ls := k.ls.take i) fun x hx => n4 x (List.mem_of_mem_take hx)
      have htl : (k.ls.take i).length ≤ 200 := by rw [List.length_take]; omega
      have hbl2 : (blocks (k.ls.take i)).length ≤ 200 * 303 := Nat.le_trans hbl (Nat.mul_le_mul_right _ htl)
      walk_at "run"
      refine i_lenL (SqL.of hb) ?_
      walk_at "run"
      rw [natsV_len]
      intro p5 H5 g5 s5 e5
      walk_at "run"
      refine i_plusL (s5 _ _ hpc) e5 (by rw [natsV_len]; simp only [List.length_cons, List.length_append, List.length_nil]; omega) ?_
      intro p6 H6 g6 s6 e6
      walk_at "run"
      have s46 := s5.trans s6
      refine i_plusL e6 (s46 _ _ hb) (by rw [List.length_append, natsV_len, natsV_len]; simp only [List.length_cons, List.length_append, List.length_nil]; omega) ?_
      intro p7 H7 g7 s7 e7
      walk_at "run"
      refine ⟨s4.trans (s46.trans s7), hi', p7, _, rfl, s03.free (s4.free (s46.free g7)), ?_⟩
      rw [e7, List.take_add_one, hl]
      simp [natsV, blocks]
    · rintro σ H4 ⟨s4, _, pc, y, rfl, fpc, hpc⟩
      rw [ll, List.take_length, ← k.cells_ls] at hpc
      walk_at "run"
      exact q pc H4 fpc (s03.trans s4) hpc
theorem pick_take {h : Sh} {j i : Nat} {t : Tri} (e : h.2[i]? = some t) (hn : (h.2.map (·.1)).Nodup) : pick (h.1, h.2.take (i + 1)) j = if t.1 = j then t.2 else pick (h.1, h.2.take i) j := by
  have htk : h.2.take (i + 1) = h.2.take i ++ [t] := by rw [List.take_add_one, e]; rfl
  have hi := (List.getElem?_eq_some_iff.mp e).1
  by_cases hj : t.1 = j
  · rw [if_pos hj]
    refine pick_some (i := i) (t := t) (by rw [htk, List.getElem?_append_right (by simp; omega)]; simp [Nat.min_eq_left (Nat.le_of_lt hi)]) hj fun x hx hxj => ?_
    have hx2 : x ∈ h.2.take i := by
      rw [htk, List.take_append_of_le_length (by simp; omega), List.take_take] at hx
      simpa using hx
    obtain ⟨m, hm, rfl⟩ := List.mem_iff_getElem.mp hx2
    rw [List.length_take] at hm
    have pw := List.pairwise_iff_getElem.mp hn
    have := pw m i (by simp; omega) (by simp; omega) (by omega)
    rw [List.getElem_map, List.getElem_map] at this
    refine this ?_
    rw [List.getElem_take] at hxj
    rw [hxj, (List.getElem?_eq_some_iff.mp e).2, hj]
  · rw [if_neg hj]
    unfold pick
    simp only
    rw [htk, List.find?_append, List.find?_cons_of_neg (by simpa using hj)]
    simp
theorem pick_ok {k : Pk} {T : Nat} (ok : PkOk k T) {h : Sh} (hh : h ∈ k.shs) (j : Nat) : (pick h j).1 < k.sys.length ∧ (pick h j).2 < k.told.length := by
  obtain ⟨o1, o2, o3, _⟩ := ok.sh h hh
  unfold pick
  cases e : h.2.find? (fun t => t.1 == j) with
  | none => exact ⟨o1, o2⟩
  | some t => exact o3 t (List.mem_of_find?_eq_some e)
def sp_due (K : PySem.W.Frag) : Sp := fun vs H Q _ => ∃ (p tx : Addr) (k : Pk) (txs : List Str) (n t j : Nat) (h : Sh) (l : List Nat), vs = [.ref p, .ref tx, .int (n : Nat), .int (j : Nat)] ∧ PartsAt H p k ∧ PkOk k txs.length ∧ H tx = some (.lst (strsV txs)) ∧ k.told[n]? = some t ∧ k.shs[t / 2]? = some h ∧ k.sys[(pick h j).1]? = some l ∧ ∀ kk pl H', Same H H' → H' kk = some (.tup [.ref pl, .int ((pick h j).2 : Nat)]) → H' pl = some (.lst (strsV (txOf txs l))) → Q (.ref kk) H'
theorem ok_law_due (T : Txt K mg t) : FnOk P w K mg base CX0 1 t.a__law_due t.fd__law_due ["parts", "texts", "room", "place"] (sp_due K) := by
  refine T.F__law_due.ok sc_law_due (fun vs H Q E h => ?_) (fun cdv A outer s H vs Q E hr h => ?_)
  · obtain ⟨p, tx, k, txs, n, t, j, h, l, rfl, _⟩ := h
    rfl
  · obtain ⟨p, tx, k, txs, n, tl, j, h, l, rfl, hP, ok, htx, hn, hh, hl, q⟩ := h
    refine ⟨_, (@pss_cons _ _ _ _ _ (@ps_set _ _ 4 _ _ _ _ sc_law_due.nd rfl (by first | exact Or.inl rfl | exact Or.inr rfl) (@pe_ix _ _ _ _ _ _ _ (kix_list K) (@pe_ix _ _ _ _ _ _ _ (kix_list K) (pv 0) (@pe_int _ _ _ _) (fun _ _ => rfl)) (@pe_op _ _ _ _ _ _ _ _ op_fdiv (@pe_ix _ _ _ _ _ _ _ (kix_list K) (@pe_ix _ _ _ _ _ _ _ (kix_list K) (pv 0) (@pe_int _ _ _ _) (fun _ _ => rfl)) (pv 2) (fun _ _ => rfl)) (@pe_int _ _ _ _)) (fun _ _ => rfl)) (by rfl) (by first | exact Or.inl rfl | exact Or.inr rfl))
      (@pss_cons _ _ _ _ _ (@ps_set _ _ 5 _ _ _ _ sc_law_due.nd rfl (by first | exact Or.inl rfl | exact Or.inr rfl) (@pe_tupN _ _ _ _ _ (@pa_cons _ _ _ _ _ (@pe_ix _ _ _ _ _ _ _ (kix_list K) (pv 4) (@pe_int _ _ _ _) (fun _ _ => rfl)) (@pa_cons _ _ _ _ _ (@pe_ix _ _ _ _ _ _ _ (kix_list K) (pv 4) (@pe_int _ _ _ _) (fun _ _ => rfl)) (@pa_nil _) (by rfl)) (by rfl))) (by rfl) (by first | exact Or.inl rfl | exact Or.inr rfl))
      (@pss_cons _ _ _ _ _ (@ps_for _ _ _ _ _ _ _ _ PassesOwn.never rfl (pi_range3 rfl T.z_range (@pa_cons _ _ _ _ _ (@pe_int _ _ _ _) (@pa_cons _ _ _ _ _ (@pe_callB _ _ _ _ _ _ _ _ _ (kcl_len K) (by rfl) T.z_len bb_len (@pa_cons _ _ _ _ _ (pv 4) (@pa_nil _) (by rfl)) (by decide) (by decide) (by rfl) (by rfl)) (@pa_cons _ _ _ _ _ (@pe_int _ _ _ _) (@pa_nil _) (by rfl)) (by rfl)) (by rfl))) (pg_name (i := 6) sc_law_due.nd rfl (by first | exact Or.inl rfl | exact Or.inr rfl)) (@pss_one _ _ _ (@ps_if _ _ _ _ _ _ _ _ (@pt_cmpR _ _ _ _ _ _ _ _ op_eq (@pe_ix _ _ _ _ _ _ _ (kix_list K) (pv 4) (pv 6) (fun _ _ => rfl)) (pv 3) (nomark _)) (@pss_one _ _ _ (@ps_set _ _ 5 _ _ _ _ sc_law_due.nd rfl (by first | exact Or.inl rfl | exact Or.inr rfl) (@pe_tupN _ _ _ _ _ (@pa_cons _ _ _ _ _ (@pe_ix _ _ _ _ _ _ _ (kix_list K) (pv 4) (@pe_op _ _ _ _ _ _ _ _ op_plus (pv 6) (@pe_int _ _ _ _)) (fun _ _ => rfl)) (@pa_cons _ _ _ _ _ (@pe_ix _ _ _ _ _ _ _ (kix_list K) (pv 4) (@pe_op _ _ _ _ _ _ _ _ op_plus (pv 6) (@pe_int _ _ _ _)) (fun _ _ => rfl)) (@pa_nil _) (by rfl)) (by rfl))) (by rfl) (by first | exact Or.inl rfl | exact Or.inr rfl))) (@pss_nil _))) (by intro _; rfl))
      (@pss_one _ _ _ (@ps_ret _ _ _ _ (@pe_tupN _ _ _ _ _ (@pa_cons _ _ _ _ _ (pe_lc (Nt := ["k"]) (Nf := ["texts"]) (caps := [1]) rfl (comp_ok (sc := defScope s_law_due) rfl rfl (by decide +kernel) (by decide +kernel) (by decide +kernel) rfl (by decide +kernel)) (kpi_list K (@pe_ix _ _ _ _ _ _ _ (kix_list K) (@pe_ix _ _ _ _ _ _ _ (kix_list K) (pv 0) (@pe_int _ _ _ _) (fun _ _ => rfl)) (@pe_ix _ _ _ _ _ _ _ (kix_tup K) (pv 5) (@pe_int _ _ _ _) (fun _ _ => rfl)) (fun _ _ => rfl))) (fun _ _ _ _ _ => (pg_name (i := 0) (show (["k", "texts"] : List Str).Nodup by decide +kernel) rfl (by first | exact Or.inl rfl | exact Or.inr rfl))) (fun _ _ _ _ _ => (@pts_nil _)) (fun _ _ _ _ _ => (@pe_ix _ _ _ _ _ _ _ (kix_list K) (pv 1) (pv 0) (fun _ _ => rfl)))) (@pa_cons _ _ _ _ _ (@pe_ix _ _ _ _ _ _ _ (kix_tup K) (pv 5) (@pe_int _ _ _ _) (fun _ _ => rfl)) (@pa_nil _) (by rfl)) (by rfl)))))))), ?_⟩
    obtain ⟨pt, ps, py, us, ws, f1, f2, h1, h2, h3, h4, h5, h6⟩ := hP.ex
    obtain ⟨o1, o2, o3, o4, o5⟩ := ok.sh h (List.mem_of_getElem? hh)
    have hul : tl / 2 < us.length := by rw [h4.len, List.length_map]; exact (List.getElem?_eq_some_iff.mp hh).1
    obtain ⟨tt, ff, ht1, ht2, _⟩ := h4.get (tl / 2) us[tl / 2] (List.getElem?_eq_getElem hul)
    rw [List.getElem?_map, hh] at ht1
    cases ht1
    obtain ⟨sa, hsa, hse, _⟩ := lst_w.mp ht2
    have hle : (natsV (shL h)).length = h.2.length * 3 + 2 := by rw [natsV_len, shL_len]
    walk_at "go"
    refine i_ixL (SqL.of h1) (atI_nat (j := 1) rfl) ?_
    walk_at "run"
    refine i_ixL (SqL.of h1) (atI_nat (j := 0) rfl) ?_
    walk_at "run"
    refine i_ixL (SqL.of h2) (atI_nat (natsV_at hn)) ?_
    walk_at "run"
    rw [show ((tl : Nat) : Int) / 2 = ((tl / 2 : Nat) : Int) by omega]
    refine i_ixL (SqL.of h3) (v := .ref sa) (atI_nat (by rw [List.getElem?_eq_getElem hul, hsa])) ?_
    walk_at "run"
    refine i_ixL (SqL.of hse) (v := .int (h.1.1 : Nat)) (atI_nat (j := 0) rfl) ?_
    walk_at "run"
    refine i_ixL (SqL.of hse) (v := .int (h.1.2 : Nat)) (atI_nat (j := 1) rfl) ?_
    walk_at "run"
    intro p1 H1 g1 s1 e1
    walk_at "run"
    refine i_lenL (SqL.of (s1 _ _ hse)) ?_
    walk_at "run"
    rw [hle]
    refine ⟨2, _, rfl, ⟨by omega, by omega, by omega, by omega⟩, ?_⟩
    rw [many3_sh]
    refine for_range3 (n := h.2.length) (fun i σ H' => Same H H' ∧ i ≤ h.2.length ∧ ∃ pq y, σ = [some (.ref p), some (.ref tx), some (.int (n : Nat)), some (.int (j : Nat)), some (.ref sa), some (.ref pq), y] ∧ H' pq = some (.tup [.int ((pick (h.1, h.2.take i) j).1 : Nat), .int ((pick (h.1, h.2.take i) j).2 : Nat)])) ⟨s1, Nat.zero_le _, p1, _, rfl, e1⟩ ?_ ?_
    · rintro i σ H2 hi ⟨s2, hil, pq, y, rfl, hpq⟩
      have et : h.2[i]? = some h.2[i] := List.getElem?_eq_getElem hi
      obtain ⟨_, x2, x3, x4⟩ := shL_at et
      have hse2 := s2 _ _ hse
      rw [show (2 : Int) + (i : Nat) * 3 = ((2 + i * 3 : Nat) : Int) by omega]
      have hpk := pick_take (j := j) et o4
      walk_at "run"
      refine i_ixL (SqL.of hse2) (atI_nat (natsV_at x2)) ?_
      walk_at "run"
      refine ite2 (fun hc => ?_) (fun hc => ?_)
      · have hc' : h.2[i].1 = j := by have := of_decide_eq_true hc; omega
        rw [if_pos hc'] at hpk
        walk_at "run"
        rw [show ((2 + i * 3 : Nat) : Int) + 1 = ((2 + i * 3 + 1 : Nat) : Int) by omega]
        refine i_ixL (SqL.of hse2) (atI_nat (natsV_at x3)) ?_
        walk_at "run"
        rw [show ((2 + i * 3 : Nat) : Int) + 2 = ((2 + i * 3 + 2 : Nat) : Int) by omega]
        refine i_ixL (SqL.of hse2) (atI_nat (natsV_at x4)) ?_
        walk_at "run"
        intro p3 H3 g3 s3 e3
        walk_at "run"
        refine ⟨s2.trans s3, hi, p3, _, rfl, ?_⟩
        rw [hpk]
        exact e3
      · have hc' : ¬ h.2[i].1 = j := fun z => hc (decide_eq_true (by omega))
        rw [if_neg hc'] at hpk
        walk_at "run"
        refine ⟨s2, hi, pq, _, rfl, ?_⟩
        rw [hpk]
        exact hpq
    · rintro σ H2 ⟨s2, _, pq, y, rfl, hpq⟩
      rw [List.take_length] at hpq
      change H2 pq = some (.tup [.int ((pick h j).1 : Nat), .int ((pick h j).2 : Nat)]) at hpq
      have hwl : (pick h j).1 < ws.length := by rw [h6.len, List.length_map]; exact (List.getElem?_eq_some_iff.mp hl).1
      obtain ⟨tt, ff, ht1, ht2, _⟩ := h6.get _ ws[(pick h j).1] (List.getElem?_eq_getElem hwl)
      rw [List.getElem?_map, hl] at ht1
      cases ht1
      obtain ⟨ya, hya, hye, _⟩ := lst_w.mp ht2
      obtain ⟨y1, y2⟩ := ok.sy l (List.mem_of_getElem? hl)
      walk_at "run"
      refine i_ixL (SqL.of (s2 _ _ h1)) (atI_nat (j := 2) rfl) ?_
      walk_at "run"
      refine i_ixT (SqT.of hpq) (atI_nat (j := 0) rfl) ?_
      walk_at "run"
      refine i_ixL (SqL.of (s2 _ _ h5)) (v := .ref ya) (atI_nat (by rw [List.getElem?_eq_getElem hwl, hya])) ?_
      walk_at "run"
      have hye2 := s2 _ _ hye
      refine ⟨⟨_, SqL.of hye2⟩, cc_list (xs := natsV l) (le_line (by rw [natsV_len]; omega)) (fun i acc H' => H' = H2 ∧ i ≤ l.length ∧ acc = strsV (txOf txs (l.take i))) ⟨rfl, Nat.zero_le _, rfl⟩ (fun i acc H' ⟨e, hi, ea⟩ => ⟨by rw [ea]; simp [strsV, txOf]; omega, e ▸ SqL.of hye2⟩) ?_ ?_⟩
      · rintro i x acc H' hx ⟨rfl, hi, rfl⟩
        obtain ⟨m, hm, rfl⟩ := natsV_get hx
        walk_at "run"
        refine i_ixL (SqL.of (s2 _ _ htx)) (atI_nat (txs_at (y2 m (List.mem_of_getElem? hm)))) ?_
        exact ⟨rfl, (List.getElem?_eq_some_iff.mp hm).1, txOf_snoc hm⟩
      · rintro acc H' ⟨rfl, _, rfl⟩ p3 H3 g3 s3 e3
        rw [natsV_len, List.take_length] at e3
        walk_at "run"
        refine i_ixT (SqT.of (s3 _ _ hpq)) (atI_nat (j := 1) rfl) ?_
        walk_at "run"
        intro p4 H4 g4 s4 e4
        exact q p4 p3 H4 (s2.trans (s3.trans s4)) e4 (s4 _ _ e3)
theorem cut_toV {xs : List V} {k : Nat} : cutV xs none (some (k : Int)) = xs.take k := by
  unfold cutV
  rw [HT.sIx_none, HT.sIx_nat, List.drop_zero, Nat.sub_zero]
  by_cases h : k ≤ xs.length
  · rw [Nat.min_eq_left h]
  · rw [Nat.min_eq_right (by omega), List.take_of_length_le (by simp), List.take_of_length_le (by omega)]
theorem mk_same {H : Hp} {x dx : Addr} {o o' : HO} (nx : H x = none) (nd : H dx = none) : Same H (upd (upd H dx o) x o') := fun y u e => by
  rw [upd_ne (ne_of_none e nx), upd_ne (ne_of_none e nd)]
  exact e
def tolW (ss : List Str) (n : Nat) : List Tw := [.lst (ss.map strW), .sc (.int (n : Nat))]
theorem tol_w {H : Hp} {kk l : Addr} {ss : List Str} {n : Nat} (a : H kk = some (.tup [.ref l, .int (n : Nat)])) (b : H l = some (.lst (strsV ss))) : (Tw.tup (tolW ss n)).At H (.ref kk) [l] := by
  simp only [tolW, Tw.At, Tw.Ats]
  exact ⟨kk, _, rfl, a, _, _, [l], [], rfl, rfl, ⟨l, _, [], rfl, b, strs_w.mpr ⟨rfl, rfl⟩, rfl⟩, _, _, [], [], rfl, rfl, ⟨rfl, True.intro, rfl⟩, rfl, rfl⟩
theorem tol_h (ss : List Str) (n : Nat) : Tw.hs (tolW ss n) ≤ 50 := by
  have := strs_hW ss
  simp only [tolW, Tw.hs, Tw.h]
  omega
theorem PAt.rest {P : Params} {C p d tx c sh sy : Addr} {H H' : Hp} {es : List Ev} {txs : List Str} {k : Pk} {S : Addr → Prop} (m : PAt P C H p d tx c sh sy es txs k) (r : ∀ x o, ¬ S x → H x = some o → H' x = some o) (l : ∀ x, S x → ∃ vs, H x = some (.lst vs)) (hn : ∀ x ∈ [tx, c, sh, sy], ¬ S x) : PAt P C H' p d tx c sh sy es txs k := by
  obtain ⟨dx, h1, h2, h3, h4, h5, h6⟩ := m.ex
  obtain ⟨φ, hφ⟩ := h2.ext
  have nl : ∀ {x : Addr} {o : HO}, H x = some o → (∀ vs, o ≠ .lst vs) → ¬ S x := fun {x o} e n z => by
    obtain ⟨vs, h⟩ := l x z
    rw [e] at h
    injection h with h
    exact n _ h
  refine ⟨dx, r _ _ (nl h1 fun _ z => nomatch z) h1, h2.mono (fun b ys e => r _ _ (nl e fun _ z => nomatch z) e) ?_, r _ _ (hn _ (by simp)) h3, r _ _ (hn _ (by simp)) h4, r _ _ (hn _ (by simp)) h5, r _ _ (hn _ (by simp)) h6⟩
  rw [hφ]
  exact r _ _ (nl hφ fun _ z => nomatch z) hφ
theorem PkOk.room {k : Pk} {T : Nat} (ok : PkOk k T) {n : Nat} (h : n < k.told.length) (j : Nat) : ∃ t h l, k.told[n]? = some t ∧ k.shs[t / 2]? = some h ∧ k.sys[(pick h j).1]? = some l ∧ (pick h j).2 < k.told.length := by
  have e1 : k.told[n]? = some k.told[n] := List.getElem?_eq_getElem h
  have e2 := ok.told _ (List.getElem_mem h)
  have e3 := pick_ok ok (List.getElem_mem e2) j
  exact ⟨_, _, _, e1, List.getElem?_eq_getElem e2, List.getElem?_eq_getElem e3.1, e3.2⟩
def sp_law (K : PySem.W.Frag) : Sp := fun vs H Q _ => ∃ (a : Addr) (ns : List Int), vs = [.ref a] ∧ SqL K H a (ns.map V.int) ∧ ns.length ≤ 63 ∧ ∀ H', Q (.bl true) H'
theorem ok_law (T : Txt K mg t) : FnOk P w K mg base CX0 5 t.a_law t.fd_law ["script"] (sp_law K) := by
  have G_PackMachine___init__ := ok_PackMachine___init__ (P := P) (w := w) (base := base) T
  have G_PackMachine_begin := ok_PackMachine_begin (P := P) (w := w) (base := base) T
  have G_PackMachine_over := ok_PackMachine_over (P := P) (w := w) (base := base) T
  have G_PackMachine_step := ok_PackMachine_step (P := P) (w := w) (base := base) T
  have G_PackMachine_values := ok_PackMachine_values (P := P) (w := w) (base := base) T
  have G__law_cell := ok_law_cell (P := P) (w := w) (base := base) T
  have G__law_cells := ok_law_cells (P := P) (w := w) (base := base) T
  have G__law_due := ok_law_due (P := P) (w := w) (base := base) T
  have G__law_events := ok_law_events (P := P) (w := w) (base := base) T
  have G__law_parts := ok_law_parts (P := P) (w := w) (base := base) T
  have G__law_take := ok_law_take (P := P) (w := w) (base := base) T
  refine T.F_law.ok sc_law (fun vs H Q E h => ?_) (fun cdv A outer s H vs Q E hr h => ?_)
  · obtain ⟨a, ns, rfl, _⟩ := h
    rfl
  · obtain ⟨a0, ns, rfl, hS, hl, q⟩ := h
    refine ⟨_, (@pss_cons _ _ _ _ _ (@ps_set _ _ 1 _ _ _ _ sc_law.nd rfl (by first | exact Or.inl rfl | exact Or.inr rfl) (@pe_op _ _ _ _ _ _ _ _ op_mod (@pe_callB _ _ _ _ _ _ _ _ _ (kcl_sum K) (by rfl) T.z_sum bb_sum (@pa_cons _ _ _ _ _ (pv 0) (@pa_nil _) (by rfl)) (by decide) (by decide) (by rfl) (by rfl)) (@pe_int _ _ _ _)) (by rfl) (by first | exact Or.inl rfl | exact Or.inr rfl))
      (@pss_cons _ _ _ _ _ (@ps_set _ _ 2 _ _ _ _ sc_law.nd rfl (by first | exact Or.inl rfl | exact Or.inr rfl) (@pe_lstN _ _ _ _ (@pa_cons _ _ _ _ _ (@pe_call _ _ _ _ _ _ _ _ _ _ _ _ _ _ _ _ G__law_cell (hr.mono (by omega)) rfl T.m__law_cell T.F__law_cell.kp T.b__law_cell .nil pass0 (@pa_cons _ _ _ _ _ (pv 0) (@pa_cons _ _ _ _ _ (@pe_int _ _ _ _) (@pa_cons _ _ _ _ _ (pv 1) (@pa_nil _) (by rfl)) (by rfl)) (by rfl)) (by decide) (by rfl) (by rfl)) (@pa_cons _ _ _ _ _ (pv 1) (@pa_nil _) (by rfl)) (by rfl))) (by rfl) (by first | exact Or.inl rfl | exact Or.inr rfl))
      (@pss_cons _ _ _ _ _ (@ps_set _ _ 3 _ _ _ _ sc_law.nd rfl (by first | exact Or.inl rfl | exact Or.inr rfl) (@pe_call _ _ _ _ _ _ _ _ _ _ _ _ _ _ _ _ G__law_events (hr.mono (by omega)) rfl T.m__law_events T.F__law_events.kp T.b__law_events .nil pass0 (@pa_cons _ _ _ _ _ (pv 2) (@pa_nil _) (by rfl)) (by decide) (by rfl) (by rfl)) (by rfl) (by first | exact Or.inl rfl | exact Or.inr rfl))
      (@pss_cons _ _ _ _ _ (@ps_set _ _ 4 _ _ _ _ sc_law.nd rfl (by first | exact Or.inl rfl | exact Or.inr rfl) (@pe_slice _ _ _ _ _ _ _ _ _ _ (ksl_list K) (@pe_lstN _ _ _ _ (@pa_cons _ _ _ _ _ (@pe_str _ _ _ _) (@pa_cons _ _ _ _ _ (@pe_str _ _ _ _) (@pa_cons _ _ _ _ _ (@pe_str _ _ _ _) (@pa_cons _ _ _ _ _ (@pe_str _ _ _ _) (@pa_nil _) (by rfl)) (by rfl)) (by rfl)) (by rfl))) (@po_none _) (@po_some _ _ _ (@pe_op _ _ _ _ _ _ _ _ op_plus (@pe_int _ _ _ _) (@pe_call _ _ _ _ _ _ _ _ _ _ _ _ _ _ _ _ G__law_take (hr.mono (by omega)) rfl T.m__law_take T.F__law_take.kp T.b__law_take .nil pass0 (@pa_cons _ _ _ _ _ (pv 2) (@pa_cons _ _ _ _ _ (@pe_int _ _ _ _) (@pa_nil _) (by rfl)) (by rfl)) (by decide) (by rfl) (by rfl))))) (by rfl) (by first | exact Or.inl rfl | exact Or.inr rfl))
      (@pss_cons _ _ _ _ _ (@ps_set _ _ 5 _ _ _ _ sc_law.nd rfl (by first | exact Or.inl rfl | exact Or.inr rfl) (@pe_call _ _ _ _ _ _ _ _ _ _ _ _ _ _ _ _ G__law_parts (hr.mono (by omega)) rfl T.m__law_parts T.F__law_parts.kp T.b__law_parts .nil pass0 (@pa_cons _ _ _ _ _ (pv 0) (@pa_cons _ _ _ _ _ (pv 1) (@pa_cons _ _ _ _ _ (@pe_callB _ _ _ _ _ _ _ _ _ (kcl_len K) (by rfl) T.z_len bb_len (@pa_cons _ _ _ _ _ (pv 3) (@pa_nil _) (by rfl)) (by decide) (by decide) (by rfl) (by rfl)) (@pa_cons _ _ _ _ _ (@pe_callB _ _ _ _ _ _ _ _ _ (kcl_len K) (by rfl) T.z_len bb_len (@pa_cons _ _ _ _ _ (pv 4) (@pa_nil _) (by rfl)) (by decide) (by decide) (by rfl) (by rfl)) (@pa_nil _) (by rfl)) (by rfl)) (by rfl)) (by rfl)) (by decide) (by rfl) (by rfl)) (by rfl) (by first | exact Or.inl rfl | exact Or.inr rfl))
      (@pss_cons _ _ _ _ _ (@ps_set _ _ 6 _ _ _ _ sc_law.nd rfl (by first | exact Or.inl rfl | exact Or.inr rfl) (@pe_tupN _ _ _ _ _ (@pa_cons _ _ _ _ _ (@pe_callTy _ _ _ _ _ _ _ _ _ (kcl_list K) (by rfl) T.z_list bb_list (@pa_cons _ _ _ _ _ (pv 3) (@pa_nil _) (by rfl)) (by decide) (by decide) (by rfl) (by rfl)) (@pa_cons _ _ _ _ _ (@pe_callTy _ _ _ _ _ _ _ _ _ (kcl_list K) (by rfl) T.z_list bb_list (@pa_cons _ _ _ _ _ (pv 4) (@pa_nil _) (by rfl)) (by decide) (by decide) (by rfl) (by rfl)) (@pa_cons _ _ _ _ _ (@pe_call _ _ _ _ _ _ _ _ _ _ _ _ _ _ _ _ G__law_cells (hr.mono (by omega)) rfl T.m__law_cells T.F__law_cells.kp T.b__law_cells .nil pass0 (@pa_cons _ _ _ _ _ (pv 5) (@pa_nil _) (by rfl)) (by decide) (by rfl) (by rfl)) (@pa_nil _) (by rfl)) (by rfl)) (by rfl))) (by rfl) (by first | exact Or.inl rfl | exact Or.inr rfl))
      (@pss_cons _ _ _ _ _ (@ps_set _ _ 7 _ _ _ _ sc_law.nd rfl (by first | exact Or.inl rfl | exact Or.inr rfl) (pe_make T.mk_PackMachine G_PackMachine___init__ (hr.mono (by omega)) rfl T.m_PackMachine T.b_PackMachine___init__ .nil pass0 (@pa_cons _ _ _ _ _ (pv 6) (@pa_nil _) (by rfl))) (by rfl) (by first | exact Or.inl rfl | exact Or.inr rfl))
      (@pss_cons _ _ _ _ _ (@ps_expr _ _ _ _ (@kpe_bm _ K _ _ _ _ _ _ _ _ _ _ _ PySem.F.plainAttrs_list PySem.F.slot_list_insert PySem.F.type_list_insert mt_insert0 (@pe_ix _ _ _ _ _ _ _ (kix_tup K) (pv 6) (@pe_int _ _ _ _) (fun _ _ => rfl)) (@pa_cons _ _ _ _ _ (@pe_int _ _ _ _) (@pa_cons _ _ _ _ _ (@pe_tupN _ _ _ _ _ (@pa_cons _ _ _ _ _ (@pe_str _ _ _ _) (@pa_cons _ _ _ _ _ (@pe_str _ _ _ _) (@pa_nil _) (by rfl)) (by rfl))) (@pa_nil _) (by rfl)) (by rfl)) (by rfl) (by rfl) (by rfl) (by rfl) (by rfl) (by rfl)) (by rfl))
      (@pss_cons _ _ _ _ _ (@ps_expr _ _ _ _ (@kpe_bm _ K _ _ _ _ _ _ _ _ _ _ _ PySem.F.plainAttrs_list PySem.F.slot_list_insert PySem.F.type_list_insert mt_insert0 (@pe_ix _ _ _ _ _ _ _ (kix_tup K) (pv 6) (@pe_int _ _ _ _) (fun _ _ => rfl)) (@pa_cons _ _ _ _ _ (@pe_int _ _ _ _) (@pa_cons _ _ _ _ _ (@pe_str _ _ _ _) (@pa_nil _) (by rfl)) (by rfl)) (by rfl) (by rfl) (by rfl) (by rfl) (by rfl) (by rfl)) (by rfl))
      (@pss_cons _ _ _ _ _ (@ps_expr _ _ _ _ (@kpe_bm _ K _ _ _ _ _ _ _ _ _ _ _ PySem.F.plainAttrs_list PySem.F.slot_list_insert PySem.F.type_list_insert mt_insert0 (@pe_ix _ _ _ _ _ _ _ (kix_tup K) (pv 6) (@pe_int _ _ _ _) (fun _ _ => rfl)) (@pa_cons _ _ _ _ _ (@pe_int _ _ _ _) (@pa_cons _ _ _ _ _ (@pe_int _ _ _ _) (@pa_nil _) (by rfl)) (by rfl)) (by rfl) (by rfl) (by rfl) (by rfl) (by rfl) (by rfl)) (by rfl))
      (@pss_cons _ _ _ _ _ (@ps_if _ _ _ _ _ _ _ _ (@pt_cmpR _ _ _ _ _ _ _ _ (kop_neW (by exact hr.units)) (pe_meth0 (pv 7) T.cl_PackMachine T.M_PackMachine_begin G_PackMachine_begin (hr.mono (by omega)) T.b_PackMachine_begin .nil pass0) (@pe_tupN _ _ _ _ _ (@pa_cons _ _ _ _ _ (pe_lc (Nt := ["k"]) (Nf := ["texts"]) (caps := [4]) rfl (comp_ok (sc := defScope s_law) rfl rfl (by decide +kernel) (by decide +kernel) (by decide +kernel) rfl (by decide +kernel)) (kpi_list K (@pe_ix _ _ _ _ _ _ _ (kix_list K) (@pe_ix _ _ _ _ _ _ _ (kix_list K) (pv 5) (@pe_int _ _ _ _) (fun _ _ => rfl)) (@pe_ix _ _ _ _ _ _ _ (kix_list K) (pv 5) (@pe_int _ _ _ _) (fun _ _ => rfl)) (fun _ _ => rfl))) (fun _ _ _ _ _ => (pg_name (i := 0) (show (["k", "texts"] : List Str).Nodup by decide +kernel) rfl (by first | exact Or.inl rfl | exact Or.inr rfl))) (fun _ _ _ _ _ => (@pts_nil _)) (fun _ _ _ _ _ => (@pe_ix _ _ _ _ _ _ _ (kix_list K) (pv 1) (pv 0) (fun _ _ => rfl)))) (@pa_cons _ _ _ _ _ (@pe_int _ _ _ _) (@pa_nil _) (by rfl)) (by rfl))) (nomark _)) (@pss_one _ _ _ (@ps_ret _ _ _ _ (@pe_bl _ _ _ _))) (@pss_nil _))
      (@pss_cons _ _ _ _ _ (@ps_for _ _ _ _ _ _ _ _ PassesOwn.never rfl (pi_range1 rfl T.z_range (@pa_cons _ _ _ _ _ (@pe_callB _ _ _ _ _ _ _ _ _ (kcl_len K) (by rfl) T.z_len bb_len (@pa_cons _ _ _ _ _ (@pe_ix _ _ _ _ _ _ _ (kix_list K) (pv 5) (@pe_int _ _ _ _) (fun _ _ => rfl)) (@pa_nil _) (by rfl)) (by decide) (by decide) (by rfl) (by rfl)) (@pa_nil _) (by rfl))) (pg_name (i := 8) sc_law.nd rfl (by first | exact Or.inl rfl | exact Or.inr rfl)) (@pss_cons _ _ _ _ _ (@ps_if _ _ _ _ _ _ _ _ (@PW.pt _ _ _ (@pw_or _ _ _ _ _ _ _ (@pt_cmpR _ _ _ _ _ _ _ _ op_ne (pe_meth (pv 7) T.cl_PackMachine T.M_PackMachine_over G_PackMachine_over (hr.mono (by omega)) T.b_PackMachine_over .nil pass0 (@pa_cons _ _ _ _ _ (pv 8) (@pa_nil _) (by rfl))) (@pe_cmpR _ _ _ _ _ _ _ _ op_eq (@pe_op _ _ _ _ _ _ _ _ op_mod (@pe_ix _ _ _ _ _ _ _ (kix_list K) (@pe_ix _ _ _ _ _ _ _ (kix_list K) (pv 5) (@pe_int _ _ _ _) (fun _ _ => rfl)) (pv 8) (fun _ _ => rfl)) (@pe_int _ _ _ _)) (@pe_int _ _ _ _) (nomark _)) (nomark _)) (@pw_or1 _ _ _ _ (@pt_cmpR _ _ _ _ _ _ _ _ (kop_neW (by exact hr.units)) (pe_meth (pv 7) T.cl_PackMachine T.M_PackMachine_values G_PackMachine_values (hr.mono (by omega)) T.b_PackMachine_values .nil pass0 (@pa_cons _ _ _ _ _ (pv 8) (@pa_nil _) (by rfl))) (@pe_tupN _ _ _ _ _ (@pa_nil _)) (nomark _))))) (@pss_one _ _ _ (@ps_ret _ _ _ _ (@pe_bl _ _ _ _))) (@pss_nil _))
        (@pss_one _ _ _ (@ps_for _ _ _ _ _ _ _ _ PassesOwn.never rfl (pi_range1 rfl T.z_range (@pa_cons _ _ _ _ _ (@pe_callB _ _ _ _ _ _ _ _ _ (kcl_len K) (by rfl) T.z_len bb_len (@pa_cons _ _ _ _ _ (pv 3) (@pa_nil _) (by rfl)) (by decide) (by decide) (by rfl) (by rfl)) (@pa_nil _) (by rfl))) (pg_name (i := 9) sc_law.nd rfl (by first | exact Or.inl rfl | exact Or.inr rfl)) (@pss_one _ _ _ (@ps_if _ _ _ _ _ _ _ _ (@pt_cmpR _ _ _ _ _ _ _ _ (kop_neW (by exact hr.units)) (pe_meth (pv 7) T.cl_PackMachine T.M_PackMachine_step G_PackMachine_step (hr.mono (by omega)) T.b_PackMachine_step .nil pass0 (@pa_cons _ _ _ _ _ (pv 8) (@pa_cons _ _ _ _ _ (@pe_ix _ _ _ _ _ _ _ (kix_list K) (pv 3) (pv 9) (fun _ _ => rfl)) (@pa_nil _) (by rfl)) (by rfl))) (@pe_call _ _ _ _ _ _ _ _ _ _ _ _ _ _ _ _ G__law_due (hr.mono (by omega)) rfl T.m__law_due T.F__law_due.kp T.b__law_due .nil pass0 (@pa_cons _ _ _ _ _ (pv 5) (@pa_cons _ _ _ _ _ (pv 4) (@pa_cons _ _ _ _ _ (pv 8) (@pa_cons _ _ _ _ _ (pv 9) (@pa_nil _) (by rfl)) (by rfl)) (by rfl)) (by rfl)) (by decide) (by rfl) (by rfl)) (nomark _)) (@pss_one _ _ _ (@ps_ret _ _ _ _ (@pe_bl _ _ _ _))) (@pss_nil _))) (by intro _; rfl)))) (by intro _; rfl))
      (@pss_cons _ _ _ _ _ (@ps_set _ _ 8 _ _ _ _ sc_law.nd rfl (by first | exact Or.inl rfl | exact Or.inr rfl) (@pe_int _ _ _ _) (by rfl) (by first | exact Or.inl rfl | exact Or.inr rfl))
      (@pss_cons _ _ _ _ _ (@ps_for _ _ _ _ _ _ _ _ PassesOwn.never rfl (kpi_list K (@pe_slice _ _ _ _ _ _ _ _ _ _ (ksl_list K) (pv 0) (@po_none _) (@po_some _ _ _ (@pe_int _ _ _ _)))) (pg_name (i := 10) sc_law.nd rfl (by first | exact Or.inl rfl | exact Or.inr rfl)) (@pss_cons _ _ _ _ _ (@ps_set _ _ 9 _ _ _ _ sc_law.nd rfl (by first | exact Or.inl rfl | exact Or.inr rfl) (@pe_op _ _ _ _ _ _ _ _ op_mod (pv 10) (@pe_callB _ _ _ _ _ _ _ _ _ (kcl_len K) (by rfl) T.z_len bb_len (@pa_cons _ _ _ _ _ (pv 3) (@pa_nil _) (by rfl)) (by decide) (by decide) (by rfl) (by rfl))) (by rfl) (by first | exact Or.inl rfl | exact Or.inr rfl))
        (@pss_cons _ _ _ _ _ (@ps_set _ _ 11 _ _ _ _ sc_law.nd rfl (by first | exact Or.inl rfl | exact Or.inr rfl) (@pe_call _ _ _ _ _ _ _ _ _ _ _ _ _ _ _ _ G__law_due (hr.mono (by omega)) rfl T.m__law_due T.F__law_due.kp T.b__law_due .nil pass0 (@pa_cons _ _ _ _ _ (pv 5) (@pa_cons _ _ _ _ _ (pv 4) (@pa_cons _ _ _ _ _ (pv 8) (@pa_cons _ _ _ _ _ (pv 9) (@pa_nil _) (by rfl)) (by rfl)) (by rfl)) (by rfl)) (by decide) (by rfl) (by rfl)) (by rfl) (by first | exact Or.inl rfl | exact Or.inr rfl))
        (@pss_cons _ _ _ _ _ (@ps_if _ _ _ _ _ _ _ _ (@pt_cmpR _ _ _ _ _ _ _ _ (kop_neW (by exact hr.units)) (pe_meth (pv 7) T.cl_PackMachine T.M_PackMachine_step G_PackMachine_step (hr.mono (by omega)) T.b_PackMachine_step .nil pass0 (@pa_cons _ _ _ _ _ (pv 8) (@pa_cons _ _ _ _ _ (@pe_ix _ _ _ _ _ _ _ (kix_list K) (pv 3) (pv 9) (fun _ _ => rfl)) (@pa_nil _) (by rfl)) (by rfl))) (pv 11) (nomark _)) (@pss_one _ _ _ (@ps_ret _ _ _ _ (@pe_bl _ _ _ _))) (@pss_nil _))
        (@pss_one _ _ _ (@ps_set _ _ 8 _ _ _ _ sc_law.nd rfl (by first | exact Or.inl rfl | exact Or.inr rfl) (@pe_ix _ _ _ _ _ _ _ (kix_tup K) (pv 11) (@pe_int _ _ _ _) (fun _ _ => rfl)) (by rfl) (by first | exact Or.inl rfl | exact Or.inr rfl)))))) (by intro _; rfl))
      (@pss_one _ _ _ (@ps_ret _ _ _ _ (@pe_bl _ _ _ _))))))))))))))))), ?_⟩
    have sl : (1000000 : Nat) ≤ sizeLine := le_line (Nat.le_refl _)
    walk_at "go"
    refine i_sum hS ?_
    walk_at "run"
    have z0 := Int.emod_nonneg ns.sum (show (2 : Int) ≠ 0 by decide)
    have z1 := Int.emod_lt_of_pos ns.sum (show (0 : Int) < 2 by decide)
    generalize ns.sum % 2 = z at z0 z1
    refine ⟨a0, ns, 0, z, rfl, hS, by decide, z0, by omega, fun zc H1 s1 => ?_⟩
    walk_at "run"
    intro pf H2 f2 s2 e2
    walk_at "run"
    have k2 : StA H2 pf z := ⟨zc, e2⟩
    refine ⟨pf, z, rfl, k2, fun es pe us H3 f3 e3 hus nd hel hes o3 k3 => ?_⟩
    walk_at "run"
    have fpf : H pf = none := s1.free f2
    have s03 : Same H H3 := o3.new (s1.trans s2) fpf
    intro px H4 f4 s4 e4
    walk_at "run"
    refine ⟨pf, z, 4, rfl, k3.same s4, by decide, by decide, fun r H5 hr o5 k5 => ?_⟩
    walk_at "run"
    have npx : px ≠ pf := k3.ne f4
    have npe : pe ≠ pf := k2.ne f3
    have s05 : Same H H5 := o5.new (s03.trans s4) fpf
    refine i_slL (SqL.of (o5 _ _ npx e4)) ?_
    rw [show (1 : Int) + (r : Nat) = ((1 + r : Nat) : Int) by omega, cut_toV]
    intro pT H6 f6 s6 e6
    obtain ⟨txs, eT, htl, htl0⟩ : ∃ txs : List Str, H6 pT = some (.lst (strsV txs)) ∧ txs.length ≤ 4 ∧ 0 < txs.length := ⟨(["1:yes", "a", "b", "no"] : List Str).take (1 + r), by rw [e6]; simp [strsV], by simp; omega, by simp; omega⟩
    walk_at "run"
    have e36 : H6 pe = some (.lst us) := s6 _ _ (o5 _ _ npe (s4 _ _ e3))
    have h36 : Tr.Ats H6 (es.map Ev.tr) us [] := (tr_tups_s (hus.same s4) (o5.tups (k3.same s4))).same s6
    have s06 := s05.trans s6
    have ul : us.length = es.length := by rw [hus.len, List.length_map]
    refine i_lenL (SqL.of e36) ?_
    rw [ul]
    walk_at "run"
    refine i_lenL (SqL.of eT) ?_
    rw [show (strsV txs).length = txs.length by simp [strsV]]
    walk_at "run"
    refine ⟨a0, ns, z, es.length, txs.length, rfl, s06.seq hS, z0, by omega, by omega, htl0, by omega, fun pp k H7 s7 hP ok => ?_⟩
    walk_at "run"
    have s07 := s06.trans s7
    refine i_listL (SqL.of (s7 _ _ e36)) ?_
    intro ta H8 f8 s8 e8
    walk_at "run"
    refine i_listL (SqL.of (s8 _ _ (s7 _ _ eT))) ?_
    intro tb H9 f9 s9 e9
    walk_at "run"
    have s79 := s8.trans s9
    refine ⟨pp, k, txs.length, rfl, hP.same s79, ok, fun tc H10 f10 s10 e10 => ?_⟩
    walk_at "run"
    intro tt H11 f11 s11 e11
    walk_at "run"
    have s711 := s79.trans (s10.trans s11)
    have s811 := s9.trans (s10.trans s11)
    intro p dx np ndx nex
    have s11x := mk_same (o := .own p) (o' := .ins t.c_PackMachine dx []) np ndx
    have ea := s811 _ _ e8
    have eb := (s10.trans s11) _ _ e9
    have ec := s11 _ _ e10
    refine ⟨p, dx, tt, ta, tb, tc, us, es, txs, k, rfl, upd_same, s11x _ _ e11, s11x _ _ ea, ((h36.same s7).same s711).same s11x, by omega, s11x _ _ eb, s11x _ _ ec, ok, fun d tx c' sh sy H12 hM fr k12 => ⟨rfl, ?_⟩⟩
    have s1112 : Same H11 H12 := fun y o e => k12 y o (s11x y o e) (ne_of_none e np)
    have fa : H7 ta = none := f8
    have fb : H7 tb = none := s8.free f9
    have fc : H7 tc = none := s79.free f10
    have hac : ta ≠ tb := ne_of_none e8 f9
    have hac2 : ta ≠ tc := ne_of_none (s9 _ _ e8) f10
    have hbc : tb ≠ tc := ne_of_none e9 f10
    have ea2 := s1112 _ _ ea
    have eb2 := s1112 _ _ eb
    have ec2 := s1112 _ _ ec
    walk_at "run"
    refine i_ixT (SqT.of (s1112 _ _ e11)) (atI_nat (j := 0) rfl) ?_
    walk_at "run"
    refine i_tyL (SqL.of ea2) ?_
    walk_at "run"
    intro p13 H13 f13 s13 e13
    walk_at "run"
    refine i_insert0 (s13 _ _ ea2) (by omega) ?_
    walk_at "run"
    have t13 : Tups H12 (upd H13 ta (.lst (.ref p13 :: us))) := s13.tups.trans (Tups.upd (s13 _ _ ea2))
    have eb3 : upd H13 ta (.lst (.ref p13 :: us)) tb = some (.lst (strsV txs)) := by rw [upd_ne (Ne.symm hac)]; exact s13 _ _ eb2
    have ec3 : upd H13 ta (.lst (.ref p13 :: us)) tc = some (.lst (natsV k.cells)) := by rw [upd_ne (Ne.symm hac2)]; exact s13 _ _ ec2
    have r13 : ∀ x o, ¬ (x = ta ∨ x = tb ∨ x = tc) → H12 x = some o → upd H13 ta (.lst (.ref p13 :: us)) x = some o := fun x o hx e => by rw [upd_ne (fun z => hx (.inl z))]; exact s13 _ _ e
    generalize upd H13 ta (.lst (.ref p13 :: us)) = H14 at t13 eb3 ec3 r13
    refine i_ixT (SqT.of (t13 _ _ (s1112 _ _ e11))) (atI_nat (j := 1) rfl) ?_
    walk_at "run"
    refine i_tyL (SqL.of eb3) ?_
    walk_at "run"
    refine i_insert0 eb3 (by simp only [strsV, List.length_map]; omega) ?_
    walk_at "run"
    have t14 : Tups H12 (upd H14 tb (.lst (.str "0" :: strsV txs))) := t13.trans (Tups.upd eb3)
    have ec4 : upd H14 tb (.lst (.str "0" :: strsV txs)) tc = some (.lst (natsV k.cells)) := by rw [upd_ne (Ne.symm hbc)]; exact ec3
    have r14 : ∀ x o, ¬ (x = ta ∨ x = tb ∨ x = tc) → H12 x = some o → upd H14 tb (.lst (.str "0" :: strsV txs)) x = some o := fun x o hx e => by rw [upd_ne (fun z => hx (.inr (.inl z)))]; exact r13 _ _ hx e
    generalize upd H14 tb (.lst (.str "0" :: strsV txs)) = H15 at t14 ec4 r14
    refine i_ixT (SqT.of (t14 _ _ (s1112 _ _ e11))) (atI_nat (j := 2) rfl) ?_
    walk_at "run"
    refine i_tyL (SqL.of ec4) ?_
    walk_at "run"
    have cl : k.cells.length ≤ 500000 := by
      obtain ⟨n4, n5⟩ := ok.ls
      have hbl := blocks_len n4
      have hbl2 : (blocks k.ls).length ≤ 200 * 303 := Nat.le_trans hbl (Nat.mul_le_mul_right _ n5)
      have := ok.nt
      rw [k.cells_ls]
      simp only [List.length_append, List.length_cons]
      omega
    refine i_insert0 ec4 (by rw [natsV_len]; omega) ?_
    walk_at "run"
    have r15 : ∀ x o, ¬ (x = ta ∨ x = tb ∨ x = tc) → H12 x = some o → upd H15 tc (.lst (.int 0 :: natsV k.cells)) x = some o := fun x o hx e => by rw [upd_ne (fun z => hx (.inr (.inr z)))]; exact r14 _ _ hx e
    generalize upd H15 tc (.lst (.int 0 :: natsV k.cells)) = H16 at r15
    have hM16 : PAt w.params t.c_PackMachine H16 p d tx c' sh sy es txs k := hM.rest (S := fun x => x = ta ∨ x = tb ∨ x = tc) r15 (fun x hx => by
      rcases hx with rfl | rfl | rfl
      · exact ⟨_, ea2⟩
      · exact ⟨_, eb2⟩
      · exact ⟨_, ec2⟩) fun x hx hz => by
      have h11 : H11 x = none := s11x.free (fr x (List.mem_cons_of_mem _ hx))
      rcases hz with rfl | rfl | rfl
      · rw [ea] at h11; cases h11
      · rw [eb] at h11; cases h11
      · rw [ec] at h11; cases h11
    have s716 : Same H7 H16 := fun x o e => r15 x o (fun hz => by
      rcases hz with rfl | rfl | rfl
      · rw [fa] at e; cases e
      · rw [fb] at e; cases e
      · rw [fc] at e; cases e) (s1112 _ _ (s711 _ _ e))
    have hP16 := hP.same s716
    have eT16 := s716 _ _ (s7 _ _ eT)
    have ee16 := s716 _ _ (s7 _ _ e36)
    have he16 := (h36.same s7).same s716
    have s016 := s07.trans s716
    clear r15 ec4 t14 eb3 ec3 t13 ea2 eb2 ec2 ea eb ec hM fr k12 s1112 s11x e11 e10 e9 e8
    obtain ⟨pt, ps, py, pus, ws, g1, g2, h1, h2, h3, h4, h5, h6⟩ := hP16.ex
    have hsl := ok.say
    have hwl : k.say < ws.length := by rw [h6.len, List.length_map]; exact hsl
    obtain ⟨t9, ff, ht1, ht2, _⟩ := h6.get _ ws[k.say] (List.getElem?_eq_getElem hwl)
    have hl9 : k.sys[k.say]? = some k.sys[k.say] := List.getElem?_eq_getElem hsl
    rw [List.getElem?_map, hl9] at ht1
    cases ht1
    obtain ⟨ya, hya, hye, _⟩ := lst_w.mp ht2
    obtain ⟨y1, y2⟩ := ok.sy _ (List.getElem_mem hsl)
    generalize k.sys[k.say] = l9 at hl9 hye y1 y2
    obtain ⟨dxm, m1, _⟩ := hM16.ex
    refine ⟨p, dxm, _, rfl, m1, pm_no _ _ _ _ _ (by decide +kernel) (by decide +kernel) (by decide +kernel) (by decide +kernel) (by decide +kernel), ?_⟩
    walk_at "run"
    refine ⟨p, d, tx, c', sh, sy, es, txs, k, l9, rfl, hM16, ok, hl9, fun kk pl H17 s17 e17 e17' => ?_⟩
    walk_at "run"
    refine i_ixL (SqL.of (s17 _ _ h1)) (atI_nat (j := 2) rfl) ?_
    walk_at "run"
    refine i_ixL (SqL.of (s17 _ _ h1)) (atI_nat (j := 3) rfl) ?_
    walk_at "run"
    refine i_ixL (SqL.of (s17 _ _ h5)) (v := .ref ya) (atI_nat (by rw [List.getElem?_eq_getElem hwl, hya])) ?_
    walk_at "run"
    have hye2 := s17 _ _ hye
    refine ⟨⟨_, SqL.of hye2⟩, cc_list (xs := natsV l9) (le_line (by rw [natsV_len]; omega)) (fun i acc H' => H' = H17 ∧ i ≤ l9.length ∧ acc = strsV (txOf txs (l9.take i))) ⟨rfl, Nat.zero_le _, rfl⟩ (fun i acc H' ⟨e, hi, ea⟩ => ⟨by rw [ea]; simp [strsV, txOf]; omega, e ▸ SqL.of hye2⟩) ?_ ?_⟩
    · rintro i x acc H' hx ⟨rfl, hi, rfl⟩
      obtain ⟨m, hm, rfl⟩ := natsV_get hx
      walk_at "run"
      refine i_ixL (SqL.of (s17 _ _ eT16)) (atI_nat (txs_at (y2 m (List.mem_of_getElem? hm)))) ?_
      exact ⟨rfl, (List.getElem?_eq_some_iff.mp hm).1, txOf_snoc hm⟩
    rintro acc H' ⟨rfl, _, rfl⟩ p18 H18 g18 s18 e18
    rw [natsV_len, List.take_length] at e18
    walk_at "run"
    intro p19 H19 g19 s19 e19
    have s1719 := s18.trans s19
    refine i_neW (tol_w (n := 0) (s1719 _ _ e17) (s1719 _ _ e17')) (tol_w (n := 0) e19 (s19 _ _ e18)) (tol_h _ _) ?_
    walk_at "run"
    have s1619 := s17.trans s1719
    refine i_ixL (SqL.of (s1619 _ _ h1)) (atI_nat (j := 0) rfl) ?_
    walk_at "run"
    refine i_lenL (SqL.of (s1619 _ _ h2)) ?_
    have n1 := ok.nt
    rw [natsV_len]
    walk_at "run"
    rw [Int.toNat_natCast]
    refine for_range (lo := 0) (n := k.told.length) (fun i σ H' => Same H16 H' ∧ ∃ y8 y9, σ = [some (.ref a0), some (.int z), some (.ref pf), some (.ref pe), some (.ref pT), some (.ref pp), some (.ref tt), some (.ref p), y8, y9, none, none]) ⟨s1619, _, _, rfl⟩ ?_ ?_
    · rintro i σ H20 hi ⟨s20, y8, y9, rfl⟩
      rw [Int.zero_add]
      have e1 : k.told[i]? = some k.told[i] := List.getElem?_eq_getElem hi
      walk_at "run"
      refine ⟨p, dxm, _, rfl, s20 _ _ m1, pm_no _ _ _ _ _ (by decide +kernel) (by decide +kernel) (by decide +kernel) (by decide +kernel) (by decide +kernel), ?_⟩
      walk_at "run"
      refine ⟨p, d, tx, c', sh, sy, es, txs, k, i, _, rfl, hM16.same s20, e1, ?_⟩
      walk_at "run"
      refine i_ixL (SqL.of (s20 _ _ h1)) (atI_nat (j := 0) rfl) ?_
      walk_at "run"
      refine i_ixL (SqL.of (s20 _ _ h2)) (atI_nat (natsV_at e1)) ?_
      walk_at "run"
      refine ite2 (fun hc => ?_) (fun hc => ?_)
      · exfalso
        simp at hc
      walk_at "run"
      refine ⟨p, dxm, _, rfl, s20 _ _ m1, pm_no _ _ _ _ _ (by decide +kernel) (by decide +kernel) (by decide +kernel) (by decide +kernel) (by decide +kernel), ?_⟩
      walk_at "run"
      refine ⟨_, _, rfl, fun k3 H21 s21 e21 => ?_⟩
      walk_at "run"
      intro k4 H22 f22 s22 e22
      refine i_neW (t := []) (fs := []) (gs := []) ?_ ?_ (by simp [Tw.hs]) ?_
      · rw [Tw.At]
        exact ⟨k3, [], rfl, s22 _ _ e21, rfl, rfl⟩
      · rw [Tw.At]
        exact ⟨k4, [], rfl, e22, rfl, rfl⟩
      walk_at "run"
      have s1622 := s20.trans (s21.trans s22)
      refine i_lenL (SqL.of (s1622 _ _ ee16)) ?_
      rw [ul]
      walk_at "run"
      rw [Int.toNat_natCast]
      refine for_range (lo := 0) (n := es.length) (fun j σ H' => Same H16 H' ∧ ∃ y9, σ = [some (.ref a0), some (.int z), some (.ref pf), some (.ref pe), some (.ref pT), some (.ref pp), some (.ref tt), some (.ref p), some (.int (i : Nat)), y9, none, none]) ⟨s1622, _, rfl⟩ ?_ ?_
      · rintro j σ H23 hj ⟨s23, y9, rfl⟩
        rw [Int.zero_add]
        obtain ⟨tl, hh, ll, q1, q2, q3, q4⟩ := ok.room hi j
        have hju : j < us.length := by omega
        obtain ⟨tx2, hx1, hx2⟩ := ats_get0 (he16.same s23) (List.getElem?_eq_getElem hju)
        rw [List.getElem?_map] at hx1
        obtain ⟨e, he, rfl⟩ := Option.map_eq_some_iff.mp hx1
        walk_at "run"
        refine ⟨p, dxm, _, rfl, s23 _ _ m1, pm_no _ _ _ _ _ (by decide +kernel) (by decide +kernel) (by decide +kernel) (by decide +kernel) (by decide +kernel), ?_⟩
        walk_at "run"
        refine i_ixL (SqL.of (s23 _ _ ee16)) (v := us[j]) (atI_nat (List.getElem?_eq_getElem hju)) ?_
        walk_at "run"
        refine ⟨p, d, tx, c', sh, sy, es, txs, k, i, tl, j, hh, us[j], e, ll, rfl, hM16.same s23, ok, q1, q2, hx2, pl_same nd (.inl ⟨List.mem_of_getElem? he, he⟩), q3, fun kk pl H24 s24 e24 e24' => ?_⟩
        walk_at "run"
        have s1624 := s23.trans s24
        refine ⟨pp, pT, k, txs, i, tl, j, hh, ll, rfl, hP16.same s1624, ok, s1624 _ _ eT16, q1, q2, q3, fun kk2 pl2 H25 s25 e25 e25' => ?_⟩
        refine i_neW (tol_w (s25 _ _ e24) (s25 _ _ e24')) (tol_w e25 e25') (tol_h _ _) ?_
        walk_at "run"
        exact ⟨s1624.trans s25, _, rfl⟩
      · rintro σ H23 ⟨s23, y9, rfl⟩
        exact ⟨s23, _, _, rfl⟩
    · rintro σ H20 ⟨s20, y8, y9, rfl⟩
      walk_at "run"
      refine i_slL ((s016.trans s20).seq hS) ?_
      rw [show cutV (ns.map V.int) none (some 60) = (ns.take 60).map V.int from cut_to (k := 60)]
      intro pz H21 f21 s21 e21
      walk_at "run"
      refine ⟨⟨_, SqL.of e21⟩, for_list (K := K) (a := pz) (xs := (ns.take 60).map V.int) (fun i σ H' => Same H16 H' ∧ H' pz = some (.lst ((ns.take 60).map V.int)) ∧ ∃ (room : Nat) (y9 y10 y11 : Option V), room < k.told.length ∧ σ = [some (.ref a0), some (.int z), some (.ref pf), some (.ref pe), some (.ref pT), some (.ref pp), some (.ref tt), some (.ref p), some (.int (room : Nat)), y9, y10, y11]) ⟨s20.trans s21, e21, 0, _, _, _, ok.n0, rfl⟩ (fun i σ H' _ ⟨_, h, _⟩ => SqL.of h) ?_ ?_⟩
      · rintro i x σ H22 hx ⟨s22, ez, room, y9, y10, y11, hroom, rfl⟩
        obtain ⟨cz, hcz, rfl⟩ : ∃ cz : Int, (ns.take 60)[i]? = some cz ∧ x = .int cz := by
          rw [List.getElem?_map] at hx
          obtain ⟨c, h1, h2⟩ := Option.map_eq_some_iff.mp hx
          exact ⟨c, h1, h2.symm⟩
        walk_at "run"
        refine i_lenL (SqL.of (s22 _ _ ee16)) ?_
        rw [ul]
        walk_at "run"
        obtain ⟨j, hj, ej⟩ := mod_nat cz hes
        rw [ej]
        obtain ⟨tl, hh, ll, q1, q2, q3, q4⟩ := ok.room hroom j
        have hju : j < us.length := by omega
        refine ⟨pp, pT, k, txs, room, tl, j, hh, ll, rfl, hP16.same s22, ok, s22 _ _ eT16, q1, q2, q3, fun kk2 pl2 H23 s23 e23 e23' => ?_⟩
        walk_at "run"
        have s1623 := s22.trans s23
        obtain ⟨tx2, hx1, hx2⟩ := ats_get0 (he16.same s1623) (List.getElem?_eq_getElem hju)
        rw [List.getElem?_map] at hx1
        obtain ⟨e, he, rfl⟩ := Option.map_eq_some_iff.mp hx1
        refine ⟨p, dxm, _, rfl, s1623 _ _ m1, pm_no _ _ _ _ _ (by decide +kernel) (by decide +kernel) (by decide +kernel) (by decide +kernel) (by decide +kernel), ?_⟩
        walk_at "run"
        refine i_ixL (SqL.of (s1623 _ _ ee16)) (v := us[j]) (atI_nat (List.getElem?_eq_getElem hju)) ?_
        walk_at "run"
        refine ⟨p, d, tx, c', sh, sy, es, txs, k, room, tl, j, hh, us[j], e, ll, rfl, hM16.same s1623, ok, q1, q2, hx2, pl_same nd (.inl ⟨List.mem_of_getElem? he, he⟩), q3, fun kk pl H24 s24 e24 e24' => ?_⟩
        walk_at "run"
        refine i_neW (tol_w e24 e24') (tol_w (s24 _ _ e23) (s24 _ _ e23')) (tol_h _ _) ?_
        walk_at "run"
        refine i_ixT (SqT.of (s24 _ _ e23)) (atI_nat (j := 1) rfl) ?_
        walk_at "run"
        exact ⟨s1623.trans s24, (s23.trans s24) _ _ ez, _, _, _, _, q4, rfl⟩
      · rintro σ H22 ⟨s22, ez, room, y9, y10, y11, hroom, rfl⟩
        walk_at "run"
        exact q H22
end
theorem all_mk {l : PySem.W.OpenLaw} {w : World} {K : PySem.W.Frag} {h : Heap} {mg : Str → Option Value} {fa : Addr} (X : K.In h) (G : h.Ns mainGlobals mg) (hfa : mg "law" = some (.ref fa))
    {C_Machine : Addr} (aC_Machine : PySem.W.nsIn K mainGlobals "Machine" = some (some (.ref C_Machine)))
    {C_PackMachine : Addr} (aC_PackMachine : PySem.W.nsIn K mainGlobals "PackMachine" = some (some (.ref C_PackMachine)))
    (pg_PackMachine : PySem.W.plainGet K C_PackMachine Str.empty = true) (hd_PackMachine : PySem.W.hasDictIn K C_PackMachine = true) (po_PackMachine : PySem.W.plainOver K C_PackMachine = true) (sa_PackMachine : PySem.W.findIn K (.ref C_PackMachine) "__setattr__" = some (some (.builtin "object.__setattr__"))) (mk_PackMachine : PySem.W.makesIn K C_PackMachine = true) (kc_PackMachine : PySem.W.keepIn K (.ref C_PackMachine) = true)
    (nF_PackMachine_cells : PySem.W.findIn K (.ref C_PackMachine) "cells" = some none)
    (nF_PackMachine_places : PySem.W.findIn K (.ref C_PackMachine) "places" = some none)
    (nF_PackMachine_sayings : PySem.W.findIn K (.ref C_PackMachine) "sayings" = some none)
    (nF_PackMachine_shapes : PySem.W.findIn K (.ref C_PackMachine) "shapes" = some none)
    (nF_PackMachine_texts : PySem.W.findIn K (.ref C_PackMachine) "texts" = some none)
    {f0 : Addr} {od0 an0 : Option Addr} {sl0 : Array (Option Value)} {oc0 kV0 dc0 pm0 cd0 ct0 : Value}
    {f1 : Addr} {od1 an1 : Option Addr} {sl1 : Array (Option Value)} {oc1 kV1 dc1 pm1 cd1 ct1 : Value}
    {f2 : Addr} {od2 an2 : Option Addr} {sl2 : Array (Option Value)} {oc2 kV2 dc2 pm2 cd2 ct2 : Value}
    {f3 : Addr} {od3 an3 : Option Addr} {sl3 : Array (Option Value)} {oc3 kV3 dc3 pm3 cd3 ct3 : Value}
    {f4 : Addr} {od4 an4 : Option Addr} {sl4 : Array (Option Value)} {oc4 kV4 dc4 pm4 cd4 ct4 : Value}
    {f5 : Addr} {od5 an5 : Option Addr} {sl5 : Array (Option Value)} {oc5 kV5 dc5 pm5 cd5 ct5 : Value}
    {f6 : Addr} {od6 an6 : Option Addr} {sl6 : Array (Option Value)} {oc6 kV6 dc6 pm6 cd6 ct6 : Value}
    {f7 : Addr} {od7 an7 : Option Addr} {sl7 : Array (Option Value)} {oc7 kV7 dc7 pm7 cd7 ct7 : Value}
    {f8 : Addr} {od8 an8 : Option Addr} {sl8 : Array (Option Value)} {oc8 kV8 dc8 pm8 cd8 ct8 : Value}
    {f9 : Addr} {od9 an9 : Option Addr} {sl9 : Array (Option Value)} {oc9 kV9 dc9 pm9 cd9 ct9 : Value}
    {f10 : Addr} {od10 an10 : Option Addr} {sl10 : Array (Option Value)} {oc10 kV10 dc10 pm10 cd10 ct10 : Value}
    {f11 : Addr} {od11 an11 : Option Addr} {sl11 : Array (Option Value)} {oc11 kV11 dc11 pm11 cd11 ct11 : Value}
    {f12 : Addr} {od12 an12 : Option Addr} {sl12 : Array (Option Value)} {oc12 kV12 dc12 pm12 cd12 ct12 : Value}
    {f13 : Addr} {od13 an13 : Option Addr} {sl13 : Array (Option Value)} {oc13 kV13 dc13 pm13 cd13 ct13 : Value}
    {f14 : Addr} {od14 an14 : Option Addr} {sl14 : Array (Option Value)} {oc14 kV14 dc14 pm14 cd14 ct14 : Value}
    {f15 : Addr} {od15 an15 : Option Addr} {sl15 : Array (Option Value)} {oc15 kV15 dc15 pm15 cd15 ct15 : Value}
    {f16 : Addr} {od16 an16 : Option Addr} {sl16 : Array (Option Value)} {oc16 kV16 dc16 pm16 cd16 ct16 : Value}
    {f17 : Addr} {od17 an17 : Option Addr} {sl17 : Array (Option Value)} {oc17 kV17 dc17 pm17 cd17 ct17 : Value}
    {f18 : Addr} {od18 an18 : Option Addr} {sl18 : Array (Option Value)} {oc18 kV18 dc18 pm18 cd18 ct18 : Value}
    {f19 : Addr} {od19 an19 : Option Addr} {sl19 : Array (Option Value)} {oc19 kV19 dc19 pm19 cd19 ct19 : Value}
    (a0 : PySem.W.nsIn K mainGlobals "block_places" = some (some (.ref f0))) (l0 : K.lookup f0 = some ⟨oc0, od0, .func (PySem.W.fnOf "block_places" "block_places" (defArgs s_block_places) (defBody s_block_places) (defScope s_block_places) .none kV0 dc0 pm0 an0 cd0 ct0), sl0⟩) (c0 : PySem.W.codeIn K cd0 "block_places" = true) (k0 : PySem.W.keepIn K (.ref f0) = true)
    (a1 : PySem.W.nsIn K mainGlobals "texts_at" = some (some (.ref f1))) (l1 : K.lookup f1 = some ⟨oc1, od1, .func (PySem.W.fnOf "texts_at" "texts_at" (defArgs s_texts_at) (defBody s_texts_at) (defScope s_texts_at) .none kV1 dc1 pm1 an1 cd1 ct1), sl1⟩) (c1 : PySem.W.codeIn K cd1 "texts_at" = true) (k1 : PySem.W.keepIn K (.ref f1) = true)
    (a2 : PySem.W.nsIn K mainGlobals "cells_in" = some (some (.ref f2))) (l2 : K.lookup f2 = some ⟨oc2, od2, .func (PySem.W.fnOf "cells_in" "cells_in" (defArgs s_cells_in) (defBody s_cells_in) (defScope s_cells_in) .none kV2 dc2 pm2 an2 cd2 ct2), sl2⟩) (c2 : PySem.W.codeIn K cd2 "cells_in" = true) (k2 : PySem.W.keepIn K (.ref f2) = true)
    (a3 : PySem.W.nsIn K mainGlobals "others_in" = some (some (.ref f3))) (l3 : K.lookup f3 = some ⟨oc3, od3, .func (PySem.W.fnOf "others_in" "others_in" (defArgs s_others_in) (defBody s_others_in) (defScope s_others_in) .none kV3 dc3 pm3 an3 cd3 ct3), sl3⟩) (c3 : PySem.W.codeIn K cd3 "others_in" = true) (k3 : PySem.W.keepIn K (.ref f3) = true)
    (a4 : PySem.W.nsIn K mainGlobals "places_by" = some (some (.ref f4))) (l4 : K.lookup f4 = some ⟨oc4, od4, .func (PySem.W.fnOf "places_by" "places_by" (defArgs s_places_by) (defBody s_places_by) (defScope s_places_by) .none kV4 dc4 pm4 an4 cd4 ct4), sl4⟩) (c4 : PySem.W.codeIn K cd4 "places_by" = true) (k4 : PySem.W.keepIn K (.ref f4) = true)
    (a5 : PySem.W.nsIn K mainGlobals "place_of" = some (some (.ref f5))) (l5 : K.lookup f5 = some ⟨oc5, od5, .func (PySem.W.fnOf "place_of" "place_of" (defArgs s_place_of) (defBody s_place_of) (defScope s_place_of) .none kV5 dc5 pm5 an5 cd5 ct5), sl5⟩) (c5 : PySem.W.codeIn K cd5 "place_of" = true) (k5 : PySem.W.keepIn K (.ref f5) = true)
    (a6 : PySem.W.findIn K (.ref C_PackMachine) "__init__" = some (some (.ref f6))) (i6 : PySem.W.isFn K (.ref f6) = true) (l6 : K.lookup f6 = some ⟨oc6, od6, .func (PySem.W.fnOf "__init__" "PackMachine.__init__" (defArgs s_PackMachine___init__) (defBody s_PackMachine___init__) (defScope s_PackMachine___init__) .none kV6 dc6 pm6 an6 cd6 ct6), sl6⟩) (c6 : PySem.W.codeIn K cd6 "PackMachine.__init__" = true) (k6 : PySem.W.keepIn K (.ref f6) = true)
    (a7 : PySem.W.findIn K (.ref C_PackMachine) "begin" = some (some (.ref f7))) (i7 : PySem.W.isFn K (.ref f7) = true) (l7 : K.lookup f7 = some ⟨oc7, od7, .func (PySem.W.fnOf "begin" "PackMachine.begin" (defArgs s_PackMachine_begin) (defBody s_PackMachine_begin) (defScope s_PackMachine_begin) .none kV7 dc7 pm7 an7 cd7 ct7), sl7⟩) (c7 : PySem.W.codeIn K cd7 "PackMachine.begin" = true) (k7 : PySem.W.keepIn K (.ref f7) = true)
    (a8 : PySem.W.findIn K (.ref C_PackMachine) "step" = some (some (.ref f8))) (i8 : PySem.W.isFn K (.ref f8) = true) (l8 : K.lookup f8 = some ⟨oc8, od8, .func (PySem.W.fnOf "step" "PackMachine.step" (defArgs s_PackMachine_step) (defBody s_PackMachine_step) (defScope s_PackMachine_step) .none kV8 dc8 pm8 an8 cd8 ct8), sl8⟩) (c8 : PySem.W.codeIn K cd8 "PackMachine.step" = true) (k8 : PySem.W.keepIn K (.ref f8) = true)
    (a9 : PySem.W.findIn K (.ref C_PackMachine) "over" = some (some (.ref f9))) (i9 : PySem.W.isFn K (.ref f9) = true) (l9 : K.lookup f9 = some ⟨oc9, od9, .func (PySem.W.fnOf "over" "PackMachine.over" (defArgs s_PackMachine_over) (defBody s_PackMachine_over) (defScope s_PackMachine_over) .none kV9 dc9 pm9 an9 cd9 ct9), sl9⟩) (c9 : PySem.W.codeIn K cd9 "PackMachine.over" = true) (k9 : PySem.W.keepIn K (.ref f9) = true)
    (a10 : PySem.W.findIn K (.ref C_PackMachine) "values" = some (some (.ref f10))) (i10 : PySem.W.isFn K (.ref f10) = true) (l10 : K.lookup f10 = some ⟨oc10, od10, .func (PySem.W.fnOf "values" "PackMachine.values" (defArgs s_PackMachine_values) (defBody s_PackMachine_values) (defScope s_PackMachine_values) .none kV10 dc10 pm10 an10 cd10 ct10), sl10⟩) (c10 : PySem.W.codeIn K cd10 "PackMachine.values" = true) (k10 : PySem.W.keepIn K (.ref f10) = true)
    (a11 : PySem.W.findIn K (.ref C_PackMachine) "said_by" = some (some (.ref f11))) (i11 : PySem.W.isFn K (.ref f11) = true) (l11 : K.lookup f11 = some ⟨oc11, od11, .func (PySem.W.fnOf "said_by" "PackMachine.said_by" (defArgs s_PackMachine_said_by) (defBody s_PackMachine_said_by) (defScope s_PackMachine_said_by) .none kV11 dc11 pm11 an11 cd11 ct11), sl11⟩) (c11 : PySem.W.codeIn K cd11 "PackMachine.said_by" = true) (k11 : PySem.W.keepIn K (.ref f11) = true)
    (a12 : PySem.W.nsIn K mainGlobals "_law_take" = some (some (.ref f12))) (l12 : K.lookup f12 = some ⟨oc12, od12, .func (PySem.W.fnOf "_law_take" "_law_take" (defArgs s_law_take) (defBody s_law_take) (defScope s_law_take) .none kV12 dc12 pm12 an12 cd12 ct12), sl12⟩) (c12 : PySem.W.codeIn K cd12 "_law_take" = true) (k12 : PySem.W.keepIn K (.ref f12) = true)
    (a13 : PySem.W.nsIn K mainGlobals "_law_cell" = some (some (.ref f13))) (l13 : K.lookup f13 = some ⟨oc13, od13, .func (PySem.W.fnOf "_law_cell" "_law_cell" (defArgs s_law_cell) (defBody s_law_cell) (defScope s_law_cell) .none kV13 dc13 pm13 an13 cd13 ct13), sl13⟩) (c13 : PySem.W.codeIn K cd13 "_law_cell" = true) (k13 : PySem.W.keepIn K (.ref f13) = true)
    (a14 : PySem.W.nsIn K mainGlobals "_law_events" = some (some (.ref f14))) (l14 : K.lookup f14 = some ⟨oc14, od14, .func (PySem.W.fnOf "_law_events" "_law_events" (defArgs s_law_events) (defBody s_law_events) (defScope s_law_events) .none kV14 dc14 pm14 an14 cd14 ct14), sl14⟩) (c14 : PySem.W.codeIn K cd14 "_law_events" = true) (k14 : PySem.W.keepIn K (.ref f14) = true)
    (a15 : PySem.W.nsIn K mainGlobals "_law_shape" = some (some (.ref f15))) (l15 : K.lookup f15 = some ⟨oc15, od15, .func (PySem.W.fnOf "_law_shape" "_law_shape" (defArgs s_law_shape) (defBody s_law_shape) (defScope s_law_shape) .none kV15 dc15 pm15 an15 cd15 ct15), sl15⟩) (c15 : PySem.W.codeIn K cd15 "_law_shape" = true) (k15 : PySem.W.keepIn K (.ref f15) = true)
    (a16 : PySem.W.nsIn K mainGlobals "_law_parts" = some (some (.ref f16))) (l16 : K.lookup f16 = some ⟨oc16, od16, .func (PySem.W.fnOf "_law_parts" "_law_parts" (defArgs s_law_parts) (defBody s_law_parts) (defScope s_law_parts) .none kV16 dc16 pm16 an16 cd16 ct16), sl16⟩) (c16 : PySem.W.codeIn K cd16 "_law_parts" = true) (k16 : PySem.W.keepIn K (.ref f16) = true)
    (a17 : PySem.W.nsIn K mainGlobals "_law_cells" = some (some (.ref f17))) (l17 : K.lookup f17 = some ⟨oc17, od17, .func (PySem.W.fnOf "_law_cells" "_law_cells" (defArgs s_law_cells) (defBody s_law_cells) (defScope s_law_cells) .none kV17 dc17 pm17 an17 cd17 ct17), sl17⟩) (c17 : PySem.W.codeIn K cd17 "_law_cells" = true) (k17 : PySem.W.keepIn K (.ref f17) = true)
    (a18 : PySem.W.nsIn K mainGlobals "_law_due" = some (some (.ref f18))) (l18 : K.lookup f18 = some ⟨oc18, od18, .func (PySem.W.fnOf "_law_due" "_law_due" (defArgs s_law_due) (defBody s_law_due) (defScope s_law_due) .none kV18 dc18 pm18 an18 cd18 ct18), sl18⟩) (c18 : PySem.W.codeIn K cd18 "_law_due" = true) (k18 : PySem.W.keepIn K (.ref f18) = true)
    (a19 : PySem.W.nsIn K mainGlobals "law" = some (some (.ref f19))) (l19 : K.lookup f19 = some ⟨oc19, od19, .func (PySem.W.fnOf "law" "law" (defArgs s_law) (defBody s_law) (defScope s_law) .none kV19 dc19 pm19 an19 cd19 ct19), sl19⟩) (c19 : PySem.W.codeIn K cd19 "law" = true) (k19 : PySem.W.keepIn K (.ref f19) = true)
    (z_enumerate : PySem.W.nsIn K mainGlobals "enumerate" = some none)
    (z_len : PySem.W.nsIn K mainGlobals "len" = some none)
    (z_list : PySem.W.nsIn K mainGlobals "list" = some none)
    (z_min : PySem.W.nsIn K mainGlobals "min" = some none)
    (z_range : PySem.W.nsIn K mainGlobals "range" = some none)
    (z_sum : PySem.W.nsIn K mainGlobals "sum" = some none)
    (z_tuple : PySem.W.nsIn K mainGlobals "tuple" = some none)
    {u_HEAD : Value} (m_HEAD : PySem.W.nsIn K mainGlobals "HEAD" = some (some u_HEAD))
    (r_HEAD : RelV (.int 4) u_HEAD)
    : ∃ fd : FuncData, (∀ (s : Shared) (v : Value), BindsTo s fd ⟨[v], []⟩ [("script", v)]) ∧ ∀ base : Heap, K.In base → base.Ns mainGlobals mg → FnOk l.prog w K mg base CX0 5 fa fd ["script"] (sp_law K) := by
  have e := hfa.symm.trans (PySem.W.mg_of X G a19)
  cases e
  have F0 := fun_mk (st := s_block_places) l0 c0 k0
  have b0 := F0.binds (ps := ["cells", "place", "count"]) fun _ _ _ _ _ _ us hl => match us, hl with | [_, _, _], _ => rfl
  have F1 := fun_mk (st := s_texts_at) l1 c1 k1
  have b1 := F1.binds (ps := ["texts", "cells", "place"]) fun _ _ _ _ _ _ us hl => match us, hl with | [_, _, _], _ => rfl
  have F2 := fun_mk (st := s_cells_in) l2 c2 k2
  have b2 := F2.binds (ps := ["cells", "place"]) fun _ _ _ _ _ _ us hl => match us, hl with | [_, _], _ => rfl
  have F3 := fun_mk (st := s_others_in) l3 c3 k3
  have b3 := F3.binds (ps := ["shape"]) fun _ _ _ _ _ _ us hl => match us, hl with | [_], _ => rfl
  have F4 := fun_mk (st := s_places_by) l4 c4 k4
  have b4 := F4.binds (ps := ["events"]) fun _ _ _ _ _ _ us hl => match us, hl with | [_], _ => rfl
  have F5 := fun_mk (st := s_place_of) l5 c5 k5
  have b5 := F5.binds (ps := ["places", "event"]) fun _ _ _ _ _ _ us hl => match us, hl with | [_, _], _ => rfl
  have F6 := fun_mk (st := s_PackMachine___init__) l6 c6 k6
  have b6 := F6.binds (ps := ["self", "pack"]) fun _ _ _ _ _ _ us hl => match us, hl with | [_, _], _ => rfl
  have F7 := fun_mk (st := s_PackMachine_begin) l7 c7 k7
  have b7 := F7.binds (ps := ["self"]) fun _ _ _ _ _ _ us hl => match us, hl with | [_], _ => rfl
  have F8 := fun_mk (st := s_PackMachine_step) l8 c8 k8
  have b8 := F8.binds (ps := ["self", "standing", "event"]) fun _ _ _ _ _ _ us hl => match us, hl with | [_, _, _], _ => rfl
  have F9 := fun_mk (st := s_PackMachine_over) l9 c9 k9
  have b9 := F9.binds (ps := ["self", "standing"]) fun _ _ _ _ _ _ us hl => match us, hl with | [_, _], _ => rfl
  have F10 := fun_mk (st := s_PackMachine_values) l10 c10 k10
  have b10 := F10.binds (ps := ["self", "standing"]) fun _ _ _ _ _ _ us hl => match us, hl with | [_, _], _ => rfl
  have F11 := fun_mk (st := s_PackMachine_said_by) l11 c11 k11
  have b11 := F11.binds (ps := ["self", "saying"]) fun _ _ _ _ _ _ us hl => match us, hl with | [_, _], _ => rfl
  have F12 := fun_mk (st := s_law_take) l12 c12 k12
  have b12 := F12.binds (ps := ["state", "many"]) fun _ _ _ _ _ _ us hl => match us, hl with | [_, _], _ => rfl
  have F13 := fun_mk (st := s_law_cell) l13 c13 k13
  have b13 := F13.binds (ps := ["script", "k", "mixed"]) fun _ _ _ _ _ _ us hl => match us, hl with | [_, _, _], _ => rfl
  have F14 := fun_mk (st := s_law_events) l14 c14 k14
  have b14 := F14.binds (ps := ["state"]) fun _ _ _ _ _ _ us hl => match us, hl with | [_], _ => rfl
  have F15 := fun_mk (st := s_law_shape) l15 c15 k15
  have b15 := F15.binds (ps := ["state", "events", "says", "rooms"]) fun _ _ _ _ _ _ us hl => match us, hl with | [_, _, _, _], _ => rfl
  have F16 := fun_mk (st := s_law_parts) l16 c16 k16
  have b16 := F16.binds (ps := ["script", "mixed", "events", "texts"]) fun _ _ _ _ _ _ us hl => match us, hl with | [_, _, _, _], _ => rfl
  have F17 := fun_mk (st := s_law_cells) l17 c17 k17
  have b17 := F17.binds (ps := ["parts"]) fun _ _ _ _ _ _ us hl => match us, hl with | [_], _ => rfl
  have F18 := fun_mk (st := s_law_due) l18 c18 k18
  have b18 := F18.binds (ps := ["parts", "texts", "room", "place"]) fun _ _ _ _ _ _ us hl => match us, hl with | [_, _, _, _], _ => rfl
  have F19 := fun_mk (st := s_law) l19 c19 k19
  have b19 := F19.binds (ps := ["script"]) fun _ _ _ _ _ _ us hl => match us, hl with | [_], _ => rfl
  have TT : Txt K mg ⟨_, _, _, _, _, _, _, _, _, _, _, _, _, _, _, _, _, _, _, _, _, _, _, _, _, _, _, _, _, _, _, _, _, _, _, _, _, _, _, _, C_Machine, C_PackMachine, u_HEAD⟩ := ⟨F0, PySem.W.mg_of X G a0, b0, F1, PySem.W.mg_of X G a1, b1, F2, PySem.W.mg_of X G a2, b2, F3, PySem.W.mg_of X G a3, b3, F4, PySem.W.mg_of X G a4, b4, F5, PySem.W.mg_of X G a5, b5, F6, b6, F7, ⟨a7, i7, k7⟩, b7, F8, ⟨a8, i8, k8⟩, b8, F9, ⟨a9, i9, k9⟩, b9, F10, ⟨a10, i10, k10⟩, b10, F11, ⟨a11, i11, k11⟩, b11, F12, PySem.W.mg_of X G a12, b12, F13, PySem.W.mg_of X G a13, b13, F14, PySem.W.mg_of X G a14, b14, F15, PySem.W.mg_of X G a15, b15, F16, PySem.W.mg_of X G a16, b16, F17, PySem.W.mg_of X G a17, b17, F18, PySem.W.mg_of X G a18, b18, F19, PySem.W.mg_of X G a19, b19, PySem.W.mg_of X G aC_Machine, PySem.W.mg_of X G aC_PackMachine, ⟨pg_PackMachine, hd_PackMachine, po_PackMachine, sa_PackMachine⟩, ⟨mk_PackMachine, a6, i6, kc_PackMachine⟩, nF_PackMachine_cells, nF_PackMachine_places, nF_PackMachine_sayings, nF_PackMachine_shapes, nF_PackMachine_texts, PySem.W.mg_none_of X G z_enumerate, PySem.W.mg_none_of X G z_len, PySem.W.mg_none_of X G z_list, PySem.W.mg_none_of X G z_min, PySem.W.mg_none_of X G z_range, PySem.W.mg_none_of X G z_sum, PySem.W.mg_none_of X G z_tuple, PySem.W.mg_of X G m_HEAD, r_HEAD⟩
  exact ⟨_, fun s v => .of_eq rfl, fun base _ _ => ok_law TT⟩
theorem walk {l : PySem.W.OpenLaw} {q : Program} {loose : List Str} {XP : (Str → Option Value) → Heap → Prop} {YP : World → Heap → Prop} {d : DefRec} {K : Params → PySem.W.Frag} (hn : l.most = some 63) (hdf : d.params.defaults = [])
    (hY : ∀ (w : World) (h : Heap), YP w h → (K w.params).In h)
    (F : ∀ (w : World) (mg : Str → Option Value) (fa : Addr) (h : Heap), (K w.params).In h → h.Ns mainGlobals mg → mg d.name = some (.ref fa) →
      ∃ fd : FuncData, (∀ (s : Shared) (u : Value), BindsTo s fd ⟨[u], []⟩ [("script", u)]) ∧ ∀ base : Heap, (K w.params).In base → base.Ns mainGlobals mg → FnOk l.prog w (K w.params) mg base CX0 5 fa fd ["script"] (sp_law (K w.params))) :
    PySem.W.WalkO q loose XP YP l.row.toRowW d [] (fun f vs => PySem.call f vs) :=
  L2.walk_of (n := 63) (k := 5) (x := "script") (CX := fun _ => CX0) (sp := fun w => sp_law (K w.params)) hn (by decide) hdf ⟨rfl, by decide, by decide⟩ hY F (fun _ _ a ns hl _ hS => ⟨a, ns, rfl, hS, hl, fun _ => rfl⟩) fun _ _ _ _ _ z => z
end K74
open PySem PySem.W PyProof.Rows
set_option maxRecDepth 100000 in
set_option maxHeartbeats 0 in
theorem PySem.Challenge.cw_callmill_k74_whole_machine_of_other_cell_holds : PySem.Challenge.rw_callmill_k74_whole_machine_of_other_cell.Holds := by
  w_on; o_law; k_head; (case hw => w_witness2)
  k_fill
  refine K74.walk (l := PySem.Challenge.rw_callmill_k74_whole_machine_of_other_cell) rfl rfl (fun w h Y => PySem.W.kIn_of Y) ?F
  case F =>
    intro w mg fa h KX G hmg
    refine' K74.all_mk KX G hmg ?aC_Machine ?aC_PackMachine ?pg_PackMachine ?hd_PackMachine ?po_PackMachine ?sa_PackMachine ?mk_PackMachine ?kc_PackMachine ?nF_PackMachine_cells ?nF_PackMachine_places ?nF_PackMachine_sayings ?nF_PackMachine_shapes ?nF_PackMachine_texts ?a0 ?l0 ?c0 ?k0 ?a1 ?l1 ?c1 ?k1 ?a2 ?l2 ?c2 ?k2 ?a3 ?l3 ?c3 ?k3 ?a4 ?l4 ?c4 ?k4 ?a5 ?l5 ?c5 ?k5 ?a6 ?i6 ?l6 ?c6 ?k6 ?a7 ?i7 ?l7 ?c7 ?k7 ?a8 ?i8 ?l8 ?c8 ?k8 ?a9 ?i9 ?l9 ?c9 ?k9 ?a10 ?i10 ?l10 ?c10 ?k10 ?a11 ?i11 ?l11 ?c11 ?k11 ?a12 ?l12 ?c12 ?k12 ?a13 ?l13 ?c13 ?k13 ?a14 ?l14 ?c14 ?k14 ?a15 ?l15 ?c15 ?k15 ?a16 ?l16 ?c16 ?k16 ?a17 ?l17 ?c17 ?k17 ?a18 ?l18 ?c18 ?k18 ?a19 ?l19 ?c19 ?k19 ?z_enumerate ?z_len ?z_list ?z_min ?z_range ?z_sum ?z_tuple ?m_HEAD ?r_HEAD
    (case aC_Machine => k_is)
    (case aC_PackMachine => k_is)
    (case pg_PackMachine => k_is)
    (case hd_PackMachine => k_is)
    (case po_PackMachine => k_is)
    (case sa_PackMachine => k_is)
    (case mk_PackMachine => k_is)
    (case kc_PackMachine => k_is)
    (case nF_PackMachine_cells => k_is)
    (case nF_PackMachine_places => k_is)
    (case nF_PackMachine_sayings => k_is)
    (case nF_PackMachine_shapes => k_is)
    (case nF_PackMachine_texts => k_is)
    (case a0 => k_is)
    (case l0 => k_is)
    (case c0 => k_is)
    (case k0 => k_is)
    (case a1 => k_is)
    (case l1 => k_is)
    (case c1 => k_is)
    (case k1 => k_is)
    (case a2 => k_is)
    (case l2 => k_is)
    (case c2 => k_is)
    (case k2 => k_is)
    (case a3 => k_is)
    (case l3 => k_is)
    (case c3 => k_is)
    (case k3 => k_is)
    (case a4 => k_is)
    (case l4 => k_is)
    (case c4 => k_is)
    (case k4 => k_is)
    (case a5 => k_is)
    (case l5 => k_is)
    (case c5 => k_is)
    (case k5 => k_is)
    (case a6 => k_is)
    (case i6 => k_is)
    (case l6 => k_is)
    (case c6 => k_is)
    (case k6 => k_is)
    (case a7 => k_is)
    (case i7 => k_is)
    (case l7 => k_is)
    (case c7 => k_is)
    (case k7 => k_is)
    (case a8 => k_is)
    (case i8 => k_is)
    (case l8 => k_is)
    (case c8 => k_is)
    (case k8 => k_is)
    (case a9 => k_is)
    (case i9 => k_is)
    (case l9 => k_is)
    (case c9 => k_is)
    (case k9 => k_is)
    (case a10 => k_is)
    (case i10 => k_is)
    (case l10 => k_is)
    (case c10 => k_is)
    (case k10 => k_is)
    (case a11 => k_is)
    (case i11 => k_is)
    (case l11 => k_is)
    (case c11 => k_is)
    (case k11 => k_is)
    (case a12 => k_is)
    (case l12 => k_is)
    (case c12 => k_is)
    (case k12 => k_is)
    (case a13 => k_is)
    (case l13 => k_is)
    (case c13 => k_is)
    (case k13 => k_is)
    (case a14 => k_is)
    (case l14 => k_is)
    (case c14 => k_is)
    (case k14 => k_is)
    (case a15 => k_is)
    (case l15 => k_is)
    (case c15 => k_is)
    (case k15 => k_is)
    (case a16 => k_is)
    (case l16 => k_is)
    (case c16 => k_is)
    (case k16 => k_is)
    (case a17 => k_is)
    (case l17 => k_is)
    (case c17 => k_is)
    (case k17 => k_is)
    (case a18 => k_is)
    (case l18 => k_is)
    (case c18 => k_is)
    (case k18 => k_is)
    (case a19 => k_is)
    (case l19 => k_is)
    (case c19 => k_is)
    (case k19 => k_is)
    (case z_enumerate => k_is)
    (case z_len => k_is)
    (case z_list => k_is)
    (case z_min => k_is)
    (case z_range => k_is)
    (case z_sum => k_is)
    (case z_tuple => k_is)
    (case m_HEAD => k_is)
    (case r_HEAD => exact ⟨_, rfl⟩)
